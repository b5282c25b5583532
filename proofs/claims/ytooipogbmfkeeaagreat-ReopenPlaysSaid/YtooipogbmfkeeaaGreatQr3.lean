/-
  Parts of what the laws of this seat stand on:RetPlain,StoPlain,FoldPlain,LogDisk.
-/
import Derived.Test.YtooipogbmfkeeaaGreatQr1
import Derived.Test.YtooipogbmfkeeaaGreatQr2
set_option maxRecDepth 100000
set_option maxHeartbeats 6400000
namespace Go.Proofs.YtooipogbmfkeeaaGreat
namespace Rt
structure Sg where
 b:Int
 n:Int
 z:Int
def zero:Sg:=⟨0,0,0⟩
def sumZ (l:List Sg):Int:=l.foldl (fun s x=>s+x.z) 0
def sumN (l:List Sg):Int:=l.foldl (fun s x=>s+x.n) 0
theorem foldZ (l:List Sg):∀s:Int,l.foldl (fun s x=>s+x.z) s=s+sumZ l:=by
 unfold sumZ
 induction l with
 | nil=>intro s;simp
 | cons x l ih=>intro s;rw [List.foldl_cons,List.foldl_cons,ih (s+x.z),ih (0+x.z)];omega
theorem foldN (l:List Sg):∀s:Int,l.foldl (fun s x=>s+x.n) s=s+sumN l:=by
 unfold sumN
 induction l with
 | nil=>intro s;simp
 | cons x l ih=>intro s;rw [List.foldl_cons,List.foldl_cons,ih (s+x.n),ih (0+x.n)];omega
theorem zgw (x:Sg) (l:List Sg):sumZ (x::l)=x.z+sumZ l:=by
 show List.foldl _ _ _=_;rw [List.foldl_cons,foldZ];omega
theorem zgx (x:Sg) (l:List Sg):sumN (x::l)=x.n+sumN l:=by
 show List.foldl _ _ _=_;rw [List.foldl_cons,foldN];omega
theorem zhC (a b:List Sg):sumZ (a++b)=sumZ a+sumZ b:=by
 show List.foldl _ _ _=_;rw [List.foldl_append,foldZ]
 rfl
theorem zhD (a b:List Sg):sumN (a++b)=sumN a+sumN b:=by
 show List.foldl _ _ _=_;rw [List.foldl_append,foldN]
 rfl
theorem zgp {l:List Sg} {k:Nat} (h:k<l.length):l.take (k+1)=l.take k++[l.getD k zero]:=by
 rw [List.take_succ_eq_append_getElem h]
 simp [List.getD_eq_getElem?_getD,h]
theorem drop_at {l:List Sg} {k:Nat} (h:k<l.length):l.drop k=l.getD k zero::l.drop (k+1):=by
 rw [List.drop_eq_getElem_cons h]
 simp [List.getD_eq_getElem?_getD,h]
theorem zkv {l:List Sg} {k:Nat} (h:k<l.length):sumZ (l.take (k+1))=sumZ (l.take k)+(l.getD k zero).z:=by
 rw [zgp h,zhC,zgw];show _+(_+0)=_;omega
theorem zkw {l:List Sg} {k:Nat} (h:k<l.length):sumN (l.take (k+1))=sumN (l.take k)+(l.getD k zero).n:=by
 rw [zgp h,zhD,zgx];show _+(_+0)=_;omega
def Fit (x:Sg):Prop:=0<=x.n/\x.n<=1099511627776/\0<=x.z/\x.z<=1099511627776
def May (l:List Sg):Prop:=l.length<=4096/\∀x∈l,Fit x
theorem Fit.zero:Fit zero:=⟨by decide,by decide,by decide,by decide⟩
theorem May.at_ {l:List Sg} (h:May l) (k:Nat):Fit (l.getD k zero):=by
 by_cases hk:k<l.length
 · rw [show l.getD k zero=l[k] by simp [List.getD_eq_getElem?_getD,hk]]
   exact h.2 _ (List.getElem_mem hk)
 · rw [show l.getD k zero=zero by simp [List.getD_eq_getElem?_getD,List.getElem?_eq_none (Nat.le_of_not_lt hk)]]
   exact Fit.zero
theorem May.drop {l:List Sg} (h:May l) (k:Nat):May (l.drop k):=⟨by rw [List.length_drop];have:=h.1;omega,fun x hx=>h.2 x (List.mem_of_mem_drop hx)⟩
theorem May.take {l:List Sg} (h:May l) (k:Nat):May (l.take k):=⟨by rw [List.length_take];have:=h.1;omega,fun x hx=>h.2 x (List.mem_of_mem_take hx)⟩
theorem zgv:∀{l:List Sg},(∀x∈l,Fit x)->0<=sumZ l/\sumZ l<=1099511627776*(l.length:Int)/\0<=sumN l/\sumN l<=1099511627776*(l.length:Int)
 | [],_=>⟨by decide,by decide,by decide,by decide⟩
 | x::l,h=>by
  obtain ⟨h1,h2,h3,h4⟩:=h x mcs;obtain ⟨i1,i2,i3,i4⟩:=zgv fun y hy=>h y (mcm hy);rw [zgw,zgx,List.length_cons]
  refine ⟨?_,?_,?_,?_⟩<;>omega
theorem May.sums {l:List Sg} (h:May l):0<=sumZ l/\sumZ l<=4503599627370496/\0<=sumN l/\sumN l<=4503599627370496:=by
 obtain ⟨h1,h2,h3,h4⟩:=zgv h.2;have:=h.1
 refine ⟨?_,?_,?_,?_⟩<;>omega
def Much (l:List Sg) (keep count:Int):Prop:=1<l.length/\(keep<sumZ (l.take (l.length-1))\/count<sumN l)
def IsPick (l:List Sg) (keep count:Int) (k:Nat):Prop:=(l=[]/\k=0)\/(k<l.length/\¬Much (l.drop k) keep count/\∀j,j<k->Much (l.drop j) keep count)
theorem IsPick.one {l:List Sg} {keep count:Int} {k m:Nat} (h:IsPick l keep count k) (h':IsPick l keep count m):k=m:=by
 rcases h with ⟨rfl,rfl⟩ | ⟨a1,a2,a3⟩
 · rcases h' with ⟨_,rfl⟩ | ⟨b1,_,_⟩
   · rfl
   · simp at b1
 · rcases h' with ⟨rfl,_⟩ | ⟨b1,b2,b3⟩
   · simp at a1
   · rcases Nat.lt_trichotomy k m with h | h | h
     · exact absurd (b3 k h) a2
     · exact h
     · exact absurd (a3 m h) b2
theorem last_not {l:List Sg} {keep count:Int} {k:Nat} (h:l.length<=k+1):¬Much (l.drop k) keep count:=fun ⟨h1,_⟩=>by rw [List.length_drop] at h1;omega
theorem pick_some (l:List Sg) (keep count:Int):∃k,IsPick l keep count k:=by
 by_cases h0:l=[]
 · exact ⟨0,.inl ⟨h0,rfl⟩⟩
 · have hl:0<l.length:=List.length_pos_iff.2 h0
   have key:∀n k,k+n+1=l.length->(∀j,j<k->Much (l.drop j) keep count)->∃k,IsPick l keep count k:=by
    intro n
    induction n with
    | zero=>exact fun k hk h=>⟨k,.inr ⟨by omega,last_not (by omega),h⟩⟩
    | succ n ih=>
     intro k hk h
     by_cases hm:Much (l.drop k) keep count
     · exact ih (k+1) (by omega) fun j hj=>by
        by_cases e:j=k
        · subst e;exact hm
        · exact h j (by omega)
     · exact ⟨k,.inr ⟨by omega,hm,h⟩⟩
   exact key (l.length-1) 0 (by omega) fun j hj=>absurd hj (Nat.not_lt_zero j)
theorem IsPick.lt {l:List Sg} {keep count:Int} {k:Nat} (h:IsPick l keep count k):k<=l.length/\(0<l.length->k<l.length):=by
 rcases h with ⟨rfl,rfl⟩ | ⟨h,_,_⟩
 · exact ⟨Nat.zero_le _,fun h=>h⟩
 · exact ⟨Nat.le_of_lt h,fun _=>h⟩
theorem IsPick.again {l:List Sg} {keep count:Int} {k:Nat} (h:IsPick l keep count k):IsPick (l.drop k) keep count 0:=by
 rcases h with ⟨rfl,rfl⟩ | ⟨a1,a2,a3⟩
 · exact .inl ⟨rfl,rfl⟩
 · exact .inr ⟨by rw [List.length_drop];omega,by rw [List.drop_zero];exact a2,fun j hj=>absurd hj (Nat.not_lt_zero j)⟩
end Rt
namespace So
open Dp
structure St where
 d:Dk
 v:Int
 g:List Rt.Sg
 x:Int
 s:Int
 z:Int
 c:Int
def floor (S:St):Int:=(S.g.headD Rt.zero).b
def man (S:St):Qm.Mn:=⟨S.v,S.g.map (·.b),S.z,S.c⟩
def lastG (S:St):Rt.Sg:=S.g.getD (S.g.length-1) Rt.zero
def zap (S:St):St×Int:=({S with d:=(sync S.d (segN (lastG S).b)).1,s:=if (sync S.d (segN (lastG S).b)).2=0 then S.x else S.s},(sync S.d (segN (lastG S).b)).2)
def more (S:St) (D:Dk):St:={S with d:=D,v:=S.v+1,g:=S.g++[⟨S.x,0,0⟩]}
noncomputable def roll (S:St):St×Int:=
 if 64<=S.g.length then (S,9)
 else if (zap S).2≠0 then zap S
 else
  let T:=(zap S).1
  let C:=create T.d (segN T.x)
  if C.2≠0 then ({T with d:=C.1},C.2)
  else
   let W:=swap C.1 (man (more T C.1))
   if W.2=9 then
    let X:=delete W.1 (segN T.x)
    ({T with d:=X.1},if X.2=0 then 9 else X.2)
   else if W.2≠0 then ({T with d:=W.1},W.2)
   else (more T W.1,0)
def grown (g:List Rt.Sg) (n:Nat):List Rt.Sg:=g.set (g.length-1) ⟨(g.getD (g.length-1) Rt.zero).b,(g.getD (g.length-1) Rt.zero).n+1,(g.getD (g.length-1) Rt.zero).z+n⟩
def put (S:St) (r:Rp.Rec):St×Int:=
 let s:=Rp.putB r
 let A:=append S.d (segN (lastG S).b) ⟨s.toArray⟩
 if A.2≠0 then ({S with d:=A.1},A.2) else ({S with d:=A.1,g:=grown S.g s.length,x:=S.x+1},0)
noncomputable def append (S:St) (q:Int) (r:Rp.Rec):St×Int:=
 open Classical in
 if ¬(Rp.Ok r/\r.a=S.x) then (S,1)
 else if 1099511627776<=S.x then (S,13)
 else if q<=(lastG S).z then (if (roll S).2≠0 then roll S else put (roll S).1 r)
 else put S r
noncomputable def zal (D:Dk):St×Int:=
 if (create D (segN 0)).2≠0 then (⟨(create D (segN 0)).1,0,[],0,0,0,0⟩,(create D (segN 0)).2)
 else
  let S:St:=⟨(create D (segN 0)).1,1,[⟨0,0,0⟩],0,0,0,0⟩
  let W:=swap S.d (man S)
  if W.2≠0 then (⟨W.1,0,[],0,0,0,0⟩,W.2) else ({S with d:=W.1},0)
def Fulls (D:Dk) (q:Int):List Rt.Sg->Int->List Rp.Rec->Prop
 | [],_,rs=>rs=[]
 | g::t,b,rs=>g.b=b/\∃l r,rs=l++r/\l≠[]/\g.n=(l.length:Int)/\dat D (segN b)=some (Rp.rowB l)/\g.z=((Rp.rowB l).length:Int)/\q<=g.z/\g.z<=q+90/\Fulls D q t (b+g.n) r
theorem Fulls.bases {D:Dk} {q:Int}:∀{t:List Rt.Sg} {b:Int} {rs:List Rp.Rec},Fulls D q t b rs->∀g∈t,b<=g.b/\g.b<b+rs.length
 | [],_,_,_,g,hg=>by cases hg
 | a::t,b,rs,⟨a1,l,r,a2,a3,a4,_,_,_,_,a9⟩,g,hg=>by
  have hp:0<l.length:=List.length_pos_iff.2 a3;subst a2;rw [List.length_append]
  rcases List.mem_cons.1 hg with rfl | hg
  · omega
  · have:=a9.bases g hg
    omega
structure Inv (q:Int) (S:St) (rs:List Rp.Rec):Prop where
 dr:Right S.d
 ok:∀r∈rs,Rp.Ok r
 up:Gp.Rise 0 rs
 x:S.x=(rs.length:Int)
 s0:0<=S.s
 s1:S.s<=S.x
 seg:∃t g l r,S.g=t++[g]/\rs=l++r/\Fulls S.d q t 0 l/\g.b=(l.length:Int)/\g.n=(r.length:Int)/\dat S.d (segN g.b)=some (Rp.rowB r)/\g.z=((Rp.rowB r).length:Int)/\g.z<=q+90
theorem zcr {α:Type} (t:List α) (g z:α):(t++[g]).getD ((t++[g]).length-1) z=g:=by
 simp [List.getD_eq_getElem?_getD]
theorem zgE:∀(b:Int) (rs:List Rp.Rec) (r:Rp.Rec),Gp.Rise b rs->r.a=b+rs.length->Gp.Rise b (rs++[r])
 | b,[],r,_,h=>⟨by simpa using h,trivial⟩
 | b,a::l,r,h,h2=>⟨h.1,zgE (b+1) l r h.2 (by rw [List.length_cons] at h2;omega)⟩
theorem zj0 (t:List Rt.Sg) (g:Rt.Sg) (n:Nat):grown (t++[g]) n=t++[⟨g.b,g.n+1,g.z+n⟩]:=by
 unfold grown;rw [zcr]
 simp
end So
namespace Fp
structure Pr where
 k:UInt8
 v:ByteArray
def zero:Pr:=⟨0,⟨#[]⟩⟩
def lo (c:UInt8) (l:List Pr):List Pr:=l.filter fun p=>decide (p.k.toNat<c.toNat)
def hi (c:UInt8) (l:List Pr):List Pr:=l.filter fun p=>decide (c.toNat<p.k.toNat)
def key (s:ByteArray):UInt8:=s.data.toList.headD 0
def val (s:ByteArray):ByteArray:=s.extract 1 s.size
def mid (s:ByteArray):List Pr:=if s.size=1 then [] else [⟨key s,val s⟩]
def step (l:List Pr) (s:ByteArray):List Pr:=if s.size=0 then l else lo (key s) l++mid s++hi (key s) l
def fold (l:List Pr) (ss:List ByteArray):List Pr:=ss.foldl step l
def Up (l:List Pr):Prop:=l.Pairwise fun a b=>a.k.toNat<b.k.toNat
def OkV (v:ByteArray):Prop:=1<=v.size/\v.size<=63
def St (l:List Pr):Prop:=(∀p∈l,OkV p.v)/\Up l
noncomputable def stB (l:List Pr):Bool:= @decide (St l) (Classical.propDecidable _)
theorem stB_yes {l:List Pr} (h:St l):stB l=true:=by unfold stB;exact @decide_eq_true _ (Classical.propDecidable _) h
theorem stB_no {l:List Pr} (h:¬St l):stB l=false:=by unfold stB;exact @decide_eq_false _ (Classical.propDecidable _) h
theorem stB_st {l:List Pr} (h:stB l=true):St l:=by unfold stB at h;exact @of_decide_eq_true _ (Classical.propDecidable _) h
theorem Up.nil:Up []:=List.Pairwise.nil
theorem St.nil:St []:=⟨by simp,Up.nil⟩
theorem Up.lo {l:List Pr} (c:UInt8) (h:Up l):Up (lo c l):=List.Pairwise.filter _ h
theorem Up.hi {l:List Pr} (c:UInt8) (h:Up l):Up (hi c l):=List.Pairwise.filter _ h
theorem zli {c:UInt8} {l:List Pr} {p:Pr}:p∈lo c l↔p∈l/\p.k.toNat<c.toNat:=by unfold lo;simp
theorem mem_hi {c:UInt8} {l:List Pr} {p:Pr}:p∈hi c l↔p∈l/\c.toNat<p.k.toNat:=by unfold hi;simp
theorem zh9 {s:ByteArray} {p:Pr} (h:p∈mid s):p=⟨key s,val s⟩/\s.size≠1:=by
 unfold mid at h
 split at h
 · cases h
 · rename_i h1;exact ⟨by simpa using h,h1⟩
theorem Up.step {l:List Pr} (s:ByteArray) (h:Up l):Up (step l s):=by
 unfold Fp.step
 split
 · exact h
 · unfold Up
   rw [List.pairwise_append,List.pairwise_append]
   refine ⟨⟨h.lo _,?_,?_⟩,h.hi _,?_⟩
   · unfold mid;split<;>simp
   · intro a ha b hb
     rw [(zh9 hb).1]
     exact (zli.1 ha).2
   · intro a ha b hb
     have:=(mem_hi.1 hb).2
     rcases List.mem_append.1 ha with h1 | h1
     · have:=(zli.1 h1).2;omega
     · rw [(zh9 h1).1];exact this
theorem St.step {l:List Pr} {s:ByteArray} (h:St l) (hs:s.size<=64):St (step l s):=by
 refine ⟨?_,h.2.step s⟩;intro p hp;unfold Fp.step at hp
 split at hp
 · exact h.1 p hp
 · rename_i h0
   rcases List.mem_append.1 hp with hp | hp
   · rcases List.mem_append.1 hp with hp | hp
     · exact h.1 p (zli.1 hp).1
     · obtain ⟨rfl,h1⟩:=zh9 hp
       unfold OkV val
       simp
       omega
   · exact h.1 p (mem_hi.1 hp).1
theorem fold_append (l:List Pr) (a b:List ByteArray):fold l (a++b)=fold (fold l a) b:=by unfold fold;simp
theorem St.fold {l:List Pr} {ss:List ByteArray} (h:St l) (hs:∀s∈ss,s.size<=64):St (fold l ss):=by
 induction ss generalizing l with
 | nil=>exact h
 | cons s ss ih=>exact ih (h.step (hs s (by simp))) (fun t ht=>hs t (by simp [ht]))
theorem Up.le_key {l:List Pr} (h:Up l):∀i (hi:i<l.length),i<=(l[i]).k.toNat:=by
 intro i
 induction i with
 | zero=>intro _;omega
 | succ i ih=>
  intro hi;have h1:=ih (by omega);have h2:=List.pairwise_iff_getElem.1 h i (i+1) (by omega) hi (by omega);omega
theorem Up.len {l:List Pr} (h:Up l):l.length<=256:=by
 rcases Nat.lt_or_ge 256 l.length with h1 | h1
 · have:=h.le_key 256 h1
   have:=(l[256]).k.toNat_lt
   omega
 · exact h1
theorem lo_at {l:List Pr} (c:UInt8) (i:Nat) (h1:∀j (hj:j<l.length),j<i->(l[j]).k.toNat<c.toNat) (h2:∀j (hj:j<l.length),i<=j->c.toNat<=(l[j]).k.toNat):
 lo c l=l.take i:=by
 unfold lo
 conv=>lhs;rw [<-List.take_append_drop i l,List.filter_append]
 have e1:(l.take i).filter (fun p=>decide (p.k.toNat<c.toNat))=l.take i:=by
  rw [List.filter_eq_self];intro p hp;obtain ⟨j,hj,rfl⟩:=List.getElem_of_mem hp;rw [List.length_take] at hj;rw [List.getElem_take]
  simpa using h1 j (by omega) (by omega)
 have e2:(l.drop i).filter (fun p=>decide (p.k.toNat<c.toNat))=[]:=by
  rw [List.filter_eq_nil_iff];intro p hp;obtain ⟨j,hj,rfl⟩:=List.getElem_of_mem hp;rw [List.length_drop] at hj;rw [List.getElem_drop];have:=h2 (i+j) (by omega) (by omega)
  simp;omega
 rw [e1,e2,List.append_nil]
theorem Up.at {l:List Pr} (h:Up l) {i j:Nat} (hj:j<l.length) (hij:i<j):(l[i]).k.toNat<(l[j]).k.toNat:=List.pairwise_iff_getElem.1 h i j (by omega) hj hij
theorem step_zero (l:List Pr) {s:ByteArray} (hs:s.size=0):step l s=l:=by unfold step;rw [if_pos hs]
def one (p:Pr):List UInt8:=p.k::(Vp.put p.v.size++p.v.data.toList)
def flat (l:List Pr):List UInt8:=l.flatMap one
def bytes (l:List Pr):List UInt8:=Vp.put l.length++flat l
theorem flat_snoc (l:List Pr) (p:Pr):flat (l++[p])=flat l++one p:=by unfold flat;simp
theorem zhe (l:List Pr) (p:Pr):flat (p::l)=one p++flat l:=by unfold flat;simp
theorem one_len (p:Pr):(one p).length<=10+p.v.size:=by
 have:=Vp.put_len_le p.v.size;have e:p.v.data.toList.length=p.v.size:=rfl;unfold one;simp only [List.length_cons,List.length_append,e];omega
theorem flat_len (l:List Pr) (m:Nat) (h:∀p∈l,p.v.size<=m):(flat l).length<=l.length*(10+m):=by
 induction l with
 | nil=>simp [flat]
 | cons p l ih=>
  have h1:=ih (fun q hq=>h q (by simp [hq]));have h2:=one_len p;have h3:=h p (by simp);rw [zhe,List.length_append,List.length_cons,Nat.add_mul];omega
def pairAt:List UInt8->Option (Pr×Nat)
 | []=>none
 | k::r=>match Vp.take r with
  | none=>none
  | some (n,j)=>if r.length<j+n then none else some (⟨k,⟨((r.drop j).take n).toArray⟩⟩,1+j+n)
def run:Nat->List UInt8->List Pr->Nat->Option (List Pr×Nat)
 | 0,_,acc,i=>some (acc,i)
 | n+1,L,acc,i=>match pairAt (L.drop i) with
  | none=>none
  | some (p,j)=>run n L (acc++[p]) (i+j)
noncomputable def parse (L:List UInt8):Option (List Pr):=
 match Vp.take L with
 | none=>none
 | some (n,j)=>if 256<n then none else match run n L [] j with
  | none=>none
  | some (ps,i)=>if i=L.length/\stB ps=true then some ps else none
theorem zjS (p:Pr) (r:List UInt8) (h:p.v.size<9223372036854775808):pairAt (one p++r)=some (p,(one p).length):=by
 have e:p.v.data.toList.length=p.v.size:=rfl;unfold one;rw [List.cons_append,pairAt,List.append_assoc,Vp.take_put _ _ h]
 simp only
 rw [if_neg (by simp only [List.length_append,e];omega)]
 congr 2
 · cases p with
   | mk k v=>
    congr 1
    rw [List.drop_left,List.take_left' e]
 · simp only [List.length_cons,List.length_append,e];omega
theorem run_flat (l:List Pr):∀(A:List UInt8) (acc:List Pr),(∀p∈l,p.v.size<9223372036854775808)->run l.length (A++flat l) acc A.length=some (acc++l,A.length+(flat l).length):=by
 induction l with
 | nil=>intro A acc _;simp [run,flat]
 | cons p l ih=>
  intro A acc h;rw [List.length_cons,run,List.drop_left,zhe,zjS p _ (h p (by simp))]
  simp only
  have h1:=ih (A++one p) (acc++[p]) (fun q hq=>h q (by simp [hq]));rw [List.length_append,List.append_assoc] at h1;rw [h1]
  simp [Nat.add_assoc]
theorem parse_bytes {l:List Pr} (h:St l):parse (bytes l)=some l:=by
 have hl:=h.2.len;unfold parse bytes;rw [Vp.take_put _ _ (by omega)]
 simp only
 rw [if_neg (by omega),run_flat l _ _ (fun p hp=>by have:=(h.1 p hp).2;omega)]
 simp only
 rw [if_pos ⟨by simp,by rw [List.nil_append];exact stB_yes h⟩]
 simp
theorem parse_st {L:List UInt8} {l:List Pr} (h:parse L=some l):St l:=by
 unfold parse at h
 split at h
 · cases h
 · split at h
   · cases h
   · split at h
     · cases h
     · split at h
       · rename_i h1
         have e:=Option.some.inj h
         subst e;exact stB_st h1.2
       · cases h
end Fp
namespace Lg
open Dp So
structure Dead (D:Dk) (R:Dk×Int):Prop where
 e:R.2=10
 x:R.1.x=true
 f:R.1.f=D.f
structure Done (D:Dk) (R:Dk×Int) (F:ByteArray->Option Fl):Prop where
 x:D.x=false
 e:R.2=0
 y:R.1.x=false
 f:∀m,get R.1.f m=F m
 c:R.1.c=D.c
theorem chg (D:Dk) (l:List Fl) (own:Int):Dead D (change D l own)\/(D.x=false/\own≠0/\change D l own=(D,own))\/(D.x=false/\own=0/\(change D l own).2=0/\(change D l own).1.x=false/\(change D l own).1.f=l/\(change D l own).1.c=D.c):=by
 rcases zaQ D l own with ⟨e,h⟩ | ⟨e,h1,h2⟩ | ⟨e,h0,h1,_⟩ | ⟨e,h0,h1,_⟩ | ⟨e,h0,h1,_⟩
 · exact .inl ⟨by rw [e],by rw [e];exact h,by rw [e]⟩
 · exact .inr (.inl ⟨h2,h1,e⟩)
 · exact .inl ⟨by rw [e],by rw [e],by rw [e]⟩
 · exact .inr (.inr ⟨h1,h0,by rw [e],by rw [e];exact h1,by rw [e],by rw [e]⟩)
 · exact .inr (.inr ⟨h1,h0,by rw [e],by rw [e];exact h1,by rw [e],by rw [e]⟩)
theorem zca {D:Dk} (hR:Right D) {n:ByteArray} (hn:Named n):Dead D (create D n)\/(D.x=false/\get D.f n≠none/\create D n=(D,8))\/(get D.f n=none/\Done D (create D n) (fun m=>if m=n then some ⟨n,⟨#[]⟩,0⟩ else get D.f m)):=by
 unfold create;rw [if_neg (by simpa using hn)]
 split
 · rename_i h
   rcases chg D [] 8 with h1 | ⟨h1,_,h2⟩ | ⟨_,h1,_⟩
   · exact .inl h1
   · exact .inr (.inl ⟨h1,by intro e;rw [e] at h;simp at h,h2⟩)
   · cases h1
 · rename_i h
   rcases chg D (withF D.f ⟨n,⟨#[]⟩,0⟩) 0 with h1 | ⟨_,h1,_⟩ | ⟨h1,_,h2,h3,h4,h5⟩
   · exact .inl h1
   · exact absurd rfl h1
   · exact .inr (.inr ⟨by simpa using h,h1,h2,h3,fun m=>by rw [h4];exact zaZ hR.2.1 _ _,h5⟩)
theorem zc2 {D:Dk} (hR:Right D) (n s:ByteArray):Dead D (Dp.append D n s)\/(D.x=false/\get D.f n=none/\Dp.append D n s=(D,7))\/(D.x=false/\0<D.c/\Dp.append D n s=(D,9))\/ ∃f,get D.f n=some f/\Done D (Dp.append D n s) (fun m=>if m=n then some ⟨n,f.d++s,f.s⟩ else get D.f m):=by
 unfold Dp.append
 split
 · rename_i h
   rcases chg D [] 7 with h1 | ⟨h1,_,h2⟩ | ⟨_,h1,_⟩
   · exact .inl h1
   · exact .inr (.inl ⟨h1,h,h2⟩)
   · cases h1
 · rename_i f h
   have hfn:=(get_mem h).2
   split
   · rename_i hc
     rcases chg D [] 9 with h1 | ⟨h1,_,h2⟩ | ⟨_,h1,_⟩
     · exact .inl h1
     · exact .inr (.inr (.inl ⟨h1,hc.1,h2⟩))
     · cases h1
   · rcases chg D (withF D.f ⟨f.n,f.d++s,f.s⟩) 0 with h1 | ⟨_,h1,_⟩ | ⟨h1,_,h2,h3,h4,h5⟩
     · exact .inl h1
     · exact absurd rfl h1
     · refine .inr (.inr (.inr ⟨f,h,h1,h2,h3,fun m=>?_,h5⟩))
       rw [h4,hfn]
       exact zaZ hR.2.1 _ _
theorem zc7 {D:Dk} (hR:Right D) (n:ByteArray):Dead D (sync D n)\/(D.x=false/\get D.f n=none/\sync D n=(D,7))\/ ∃f,get D.f n=some f/\Done D (sync D n) (fun m=>if m=n then some ⟨n,f.d,f.d.size⟩ else get D.f m):=by
 unfold sync
 split
 · rename_i h
   rcases chg D [] 7 with h1 | ⟨h1,_,h2⟩ | ⟨_,h1,_⟩
   · exact .inl h1
   · exact .inr (.inl ⟨h1,h,h2⟩)
   · cases h1
 · rename_i f h
   have hfn:=(get_mem h).2
   rcases chg D (withF D.f ⟨f.n,f.d,f.d.size⟩) 0 with h1 | ⟨_,h1,_⟩ | ⟨h1,_,h2,h3,h4,h5⟩
   · exact .inl h1
   · exact absurd rfl h1
   · refine .inr (.inr ⟨f,h,h1,h2,h3,fun m=>?_,h5⟩)
     rw [h4,hfn]
     exact zaZ hR.2.1 _ _
theorem zlV {D:Dk} (hR:Right D) (n:ByteArray) {k:Int} {f:Fl} (h:get D.f n=some f) (hk:0<=k/\k<=(f.d.size:Int)):Dead D (cut D n k)\/Done D (cut D n k) (fun m=>if m=n then some ⟨n,f.d.extract 0 k.toNat,min f.s k⟩ else get D.f m):=by
 unfold cut;have hfn:=(get_mem h).2;rw [h];dsimp only;rw [if_neg (by omega)]
 rcases chg D (withF D.f ⟨f.n,f.d.extract 0 k.toNat,min f.s k⟩) 0 with h1 | ⟨_,h1,_⟩ | ⟨h1,_,h2,h3,h4,h5⟩
 · exact .inl h1
 · exact absurd rfl h1
 · refine .inr ⟨h1,h2,h3,fun m=>?_,h5⟩
   rw [h4,hfn]
   exact zaZ hR.2.1 _ _
theorem zgO {D:Dk} (hR:Right D) (n m:ByteArray) (hm:Named m):Dead D (rename D n m)\/(D.x=false/\get D.f n=none/\rename D n m=(D,7))\/ ∃f,get D.f n=some f/\Done D (rename D n m) (fun x=>if x=m then some ⟨m,f.d,f.s⟩ else if x=n then none else get D.f x):=by
 unfold rename
 split
 · rename_i h
   rcases chg D [] 7 with h1 | ⟨h1,_,h2⟩ | ⟨_,h1,_⟩
   · exact .inl h1
   · exact .inr (.inl ⟨h1,h,h2⟩)
   · cases h1
 · rename_i f h
   rw [if_neg (by simpa using hm)]
   rcases chg D (withF (without D.f n) ⟨m,f.d,f.s⟩) 0 with h1 | ⟨_,h1,_⟩ | ⟨h1,_,h2,h3,h4,h5⟩
   · exact .inl h1
   · exact absurd rfl h1
   · refine .inr (.inr ⟨f,h,h1,h2,h3,fun x=>?_,h5⟩)
     rw [h4,zaZ (hR.2.1.without n),zcF hR.2.1]
theorem zbp {D:Dk} (hR:Right D) (n:ByteArray):Dead D (delete D n)\/(D.x=false/\get D.f n=none/\delete D n=(D,7))\/(get D.f n≠none/\Done D (delete D n) (fun m=>if m=n then none else get D.f m)):=by
 unfold delete
 split
 · rename_i h
   rcases chg D [] 7 with h1 | ⟨h1,_,h2⟩ | ⟨_,h1,_⟩
   · exact .inl h1
   · exact .inr (.inl ⟨h1,h,h2⟩)
   · cases h1
 · rename_i f h
   rcases chg D (without D.f n) 0 with h1 | ⟨_,h1,_⟩ | ⟨h1,_,h2,h3,h4,h5⟩
   · exact .inl h1
   · exact absurd rfl h1
   · exact .inr (.inr ⟨by rw [h];simp,h1,h2,h3,fun m=>by rw [h4];exact zcF hR.2.1 _ _,h5⟩)
theorem zd9 {b:Int} (h0:0<=b) (h1:b<=1099511627776) (c:UInt8):(Np.nameL c b).length=14:=by
 obtain ⟨n,rfl⟩:∃n:Nat,b=(n:Int):=⟨b.toNat,by omega⟩;exact Np.name_len c (by omega)
def snapN (b:Int):ByteArray:=⟨(Np.nameL 116 b).toArray⟩
theorem zc8 {b:Int} (h0:0<=b) (h1:b<=1099511627776):snapN b≠nm/\snapN b≠nn:=by
 have hl:(snapN b).data.toList.length=14:=zd9 h0 h1 116;exact ⟨fun e=>by rw [e] at hl;exact absurd hl (by decide),fun e=>by rw [e] at hl;exact absurd hl (by decide)⟩
theorem zgz {a b:Int} (h0:0<=a) (h1:a<=1099511627776) (h2:0<=b) (h3:b<=1099511627776) (h:snapN a=snapN b):a=b:=by
 obtain ⟨n,rfl⟩:∃n:Nat,a=(n:Int):=⟨a.toNat,by omega⟩;obtain ⟨m,rfl⟩:∃m:Nat,b=(m:Int):=⟨b.toNat,by omega⟩;have e:Np.nameL 116 (n:Int)=Np.nameL 116 (m:Int):=congrArg (fun x:ByteArray=>x.data.toList) h;rw [Np.name_inj (.inr rfl) (by omega) (by omega) e]
theorem zbn {a b:Int} (h0:0<=a) (h1:a<=1099511627776) (h2:0<=b) (h3:b<=1099511627776):snapN a≠segN b:=fun h=>by
 have e:Np.nameL 116 a=Np.nameL 115 b:=congrArg (fun x:ByteArray=>x.data.toList) h;unfold Np.nameL at e;rw [if_pos ⟨h0,h1⟩,if_pos ⟨h2,h3⟩] at e;exact absurd (List.cons.inj e).1 (by decide)
theorem zjX {b:Int} (h0:0<=b) (h1:b<=1099511627776):Named (snapN b):=by
 have:(snapN b).size=14:=zd9 h0 h1 116;exact ⟨by omega,by omega⟩
theorem zfe {b:Int} (h0:0<=b) (h1:b<=1099511627776):Named (segN b):=by
 have:(segN b).size=14:=zd9 h0 h1 115;exact ⟨by omega,by omega⟩
theorem nmn:nm≠nn:=by decide
theorem zi0:Named nm/\Named nn:=⟨⟨by decide,by decide⟩,⟨by decide,by decide⟩⟩
def Whole (D:Dk) (n:ByteArray) (L:List UInt8):Prop:=∃f,get D.f n=some f/\f.d.data.toList=L/\f.s=(f.d.size:Int)
theorem Whole.keep {D D':Dk} {n:ByteArray} {L:List UInt8} (h:Whole D n L) (e:get D'.f n=get D.f n):Whole D' n L:=by
 obtain ⟨f,h1,h2⟩:=h;exact ⟨f,e.trans h1,h2⟩
theorem Whole.dat {D:Dk} {n:ByteArray} {L:List UInt8} (h:Whole D n L):dat D n=some L:=by
 obtain ⟨f,h1,h2,_⟩:=h;unfold So.dat;rw [h1, <-h2]
 rfl
structure Gone (D:Dk) (R:Dk×Int) (ns:ByteArray->Prop):Prop where
 e:R.2=10
 x:R.1.x=true
 f:∀n,¬ns n->get R.1.f n=get D.f n
theorem Dead.gone {D:Dk} {R:Dk×Int} (h:Dead D R) (ns:ByteArray->Prop):Gone D R ns:=⟨h.e,h.x,fun n _=>by rw [h.f]⟩
theorem zhA {D:Dk} (hR:Right D) (hn:D.x=false->get D.f nn=none) (s:ByteArray):
 Gone D (swapS D s) (fun n=>n=nn)\/(D.x=false/\(swapS D s).2=9/\(swapS D s).1.x=false/\(∀n,get (swapS D s).1.f n=get D.f n)/\0<D.c)\/Done D (swapS D s) (fun n=>if n=nm then some ⟨nm,s,s.size⟩ else get D.f n):=by
 have r1:=zel hR nn;have r2:=zgG r1 nn s;have r3:=zgF r2 nn;unfold swapS
 rcases zca hR zi0.2 with h1 | ⟨h1,h2,_⟩ | ⟨h1,hC⟩
 · rw [if_pos (by rw [h1.e];decide)]
   exact .inl (h1.gone _)
 · exact absurd (hn h1) h2
 rw [if_neg (by rw [hC.e];decide)];have hCf:=hC.f;have hCy:=hC.y;have hx:=hC.x;have hCc:=hC.c;clear hC;generalize (create D nn).1=C at*
 rcases zc2 r1 nn s with h3 | ⟨_,h4,_⟩ | ⟨h3,h4,h5⟩ | ⟨f,h4,hA⟩
 · rw [if_neg (by rw [h3.e];decide),if_pos (by rw [h3.e];decide)]
   exact .inl ⟨h3.e,h3.x,fun n hn=>by rw [h3.f,hCf,if_neg hn]⟩
 · rw [hCf,if_pos rfl] at h4;cases h4
 · rw [h5]
   dsimp only
   rw [if_pos rfl]
   rcases zbp r1 nn with h6 | ⟨_,h6,_⟩ | ⟨h6,hX⟩
   · rw [if_neg (by rw [h6.e];decide)]
     exact .inl ⟨h6.e,h6.x,fun n hn=>by show get (delete C nn).1.f n=_;rw [h6.f,hCf,if_neg hn]⟩
   · rw [hCf,if_pos rfl] at h6;cases h6
   · rw [if_pos hX.e]
     refine .inr (.inl ⟨hx,rfl,hX.y,fun n=>?_,by omega⟩)
     show get (delete C nn).1.f n=_;rw [hX.f]
     by_cases e:n=nn
     · rw [if_pos e,e,h1]
     · rw [if_neg e,hCf,if_neg e]
 · rw [hCf,if_pos rfl] at h4
   obtain rfl:=Option.some.inj h4
   rw [if_neg (by rw [hA.e];decide),if_neg (by rw [hA.e];decide)];have hAf:=hA.f;have hAc:=hA.c;clear hA;generalize (Dp.append C nn s).1=A at*
   rcases zc7 r2 nn with h5 | ⟨_,h5,_⟩ | ⟨f,h5,hS⟩
   · rw [if_pos (by rw [h5.e];decide)]
     exact .inl ⟨h5.e,h5.x,fun n hn=>by rw [h5.f,hAf,if_neg hn,hCf,if_neg hn]⟩
   · rw [hAf,if_pos rfl] at h5;cases h5
   rw [hAf,if_pos rfl] at h5;obtain rfl:=Option.some.inj h5;rw [if_neg (by rw [hS.e];decide)];have hSf:=hS.f;have hSc:=hS.c;clear hS;generalize (sync A nn).1=B at*
   rcases zgO r3 nn nm zi0.1 with h6 | ⟨_,h6,_⟩ | ⟨f,h6,hN⟩
   · exact .inl ⟨h6.e,h6.x,fun n hn=>by rw [h6.f,hSf,if_neg hn,hAf,if_neg hn,hCf,if_neg hn]⟩
   · rw [hSf,if_pos rfl] at h6;cases h6
   rw [hSf,if_pos rfl] at h6;obtain rfl:=Option.some.inj h6;refine .inr (.inr ⟨hx,hN.e,hN.y,fun n=>?_,by rw [hN.c,hSc,hAc,hCc]⟩);rw [hN.f]
   have e0:(⟨#[]⟩:ByteArray)++s=s:=by ext1;simp
   by_cases e:n=nm
   · rw [if_pos e,if_pos e,e0]
   · rw [if_neg e,if_neg e]
     by_cases e2:n=nn
     · rw [if_pos e2,e2,h1]
     · rw [if_neg e2,hSf,if_neg e2,hAf,if_neg e2,hCf,if_neg e2]
theorem zku {D:Dk} {m:Qm.Mn} (hm:Qm.Ok m) (hx:D.x=true):swap D m=(D,10):=by
 have hc:∀(l:List Fl) (own:Int),change D l own=(D,10):=fun l own=>by unfold change;rw [if_pos hx]
 have h1:create D nn=(D,10):=by
  unfold create
  split
  · exact hc _ _
  · split<;>exact hc _ _
 have h2:delete D nn=(D,10):=by unfold delete;split<;>exact hc _ _
 have h3:∀s,swapS D s=(D,10):=fun s=>by unfold swapS;rw [h1,if_pos (by show (10:Int)≠0;decide)]
 unfold swap;rw [Qm.putM_yes hm,if_neg (by show ¬(0:Int)≠0;decide)]
 split
 · rw [h2,if_pos (by show (10:Int)≠0;decide)]
 · exact h3 _
theorem zdL {D:Dk} (hR:Right D) {m:Qm.Mn} (hm:Qm.Ok m) (hn:D.x=false->get D.f nn=none):
 Gone D (swap D m) (fun n=>n=nn)\/(D.x=false/\(swap D m).2=9/\(swap D m).1.x=false/\(∀n,get (swap D m).1.f n=get D.f n)/\0<D.c)\/Done D (swap D m) (fun n=>if n=nm then some ⟨nm,⟨(Qm.putM m).1.toArray⟩,(⟨(Qm.putM m).1.toArray⟩:ByteArray).size⟩ else get D.f n):=by
 by_cases hx:D.x=true
 · rw [zku hm hx];exact .inl ⟨rfl,hx,fun _ _=>rfl⟩
 · have hx:D.x=false:=by simpa using hx
   have e:swap D m=swapS D ⟨(Qm.putM m).1.toArray⟩:=by
    unfold swap;rw [if_neg (by rw [Qm.putM_yes hm];show ¬(0:Int)≠0;decide),if_neg (by rw [hn hx];decide)]
   rw [e];exact zhA hR hn _
end Lg
end Go.Proofs.YtooipogbmfkeeaaGreat

/-
  Parts of what the laws of this seat stand on:SegPlain,RetPlain,StoPlain,FoldPlain.
-/
import Derived.Test.YtgmppfpllogdcaaGreatBi1
import Derived.Test.YtgmppfpllogdcaaGreatBi2
set_option maxRecDepth 100000
set_option maxHeartbeats 6400000
namespace Go.Proofs.YtgmppfpllogdcaaGreat
namespace Gp
open Rp
def pl:Nat->List UInt8->Int->Nat->List (Rec×Nat)×Nat×Int
 | 0,_,_,k=>([],k,0)
 | n+1,l,b,k=>
  if l=[] then ([],k,0)
  else if (nxt l).2.2=0 then
   (if (nxt l).1.a=b then (((nxt l).1,k)::(pl n (l.drop (nxt l).2.1) (b+1) (k+(nxt l).2.1)).1,(pl n (l.drop (nxt l).2.1) (b+1) (k+(nxt l).2.1)).2) else ([],k,3))
  else ([],k,(nxt l).2.2)
theorem pl_fuel:∀(n:Nat) (l:List UInt8) (b:Int) (k:Nat),l.length<=n->pl n l b k=pl l.length l b k:=by
 intro n
 induction n using Nat.strongRecOn with
 | ind n ih=>
  intro l b k hl
  by_cases hk:l.length=n
  · rw [hk]
  · obtain ⟨n,rfl⟩:∃n',n=n'+1:=⟨n-1,by omega⟩
    by_cases h0:l=[]
    · subst h0;simp [pl]
    · obtain ⟨m,hm⟩:∃m,l.length=m+1:=⟨l.length-1,by have:=List.length_pos_iff.2 h0;omega⟩
      rw [hm,pl,pl,if_neg h0,if_neg h0]
      rcases zgD l with ⟨e,h,h3⟩ | ⟨r,j,h,_,h5,h6,_⟩
      · rw [h];dsimp only;rw [if_neg (by omega),if_neg (by omega)]
      · rw [h];dsimp only;rw [if_pos rfl,if_pos rfl,ih n (by omega) (l.drop j) _ _ (by rw [List.length_drop];omega),ih m (by omega) (l.drop j) _ _ (by rw [List.length_drop];omega)]
def pls (l:List UInt8) (b:Int) (k:Nat):List (Rec×Nat)×Nat×Int:=pl l.length l b k
theorem zkN (b:Int) (k:Nat):pls [] b k=([],k,0):=rfl
theorem ziz {l:List UInt8} {b:Int} {k:Nat} {e:Int} (hne:l≠[]) (h:nxt l=(zero,0,e)) (he:e≠0):pls l b k=([],k,e):=by
 obtain ⟨m,hm⟩:∃m,l.length=m+1:=⟨l.length-1,by have:=List.length_pos_iff.2 hne;omega⟩;unfold pls;rw [hm,pl,if_neg hne,h];dsimp only;rw [if_neg he]
theorem pls_form {l:List UInt8} {b:Int} {k j:Nat} {r:Rec} (h:nxt l=(r,j,0)) (hl:l≠[]) (ha:r.a≠b):pls l b k=([],k,3):=by
 obtain ⟨m,hm⟩:∃m,l.length=m+1:=⟨l.length-1,by have:=List.length_pos_iff.2 hl;omega⟩;unfold pls;rw [hm,pl,if_neg hl,h];dsimp only;rw [if_pos rfl,if_neg ha]
theorem pls_go {l:List UInt8} {b:Int} {k j:Nat} {r:Rec} (h:nxt l=(r,j,0)) (hj:0<j) (hl:j<=l.length) (ha:r.a=b):
 pls l b k=((r,k)::(pls (l.drop j) (b+1) (k+j)).1,(pls (l.drop j) (b+1) (k+j)).2):=by
 obtain ⟨m,hm⟩:∃m,l.length=m+1:=⟨l.length-1,by omega⟩
 have hne:l≠[]:=by rw [<-List.length_pos_iff];omega
 unfold pls;rw [hm,pl,if_neg hne,h];dsimp only;rw [if_pos rfl,if_pos ha,pl_fuel m (l.drop j) _ _ (by rw [List.length_drop];omega)]
def PRel (l:List UInt8) (b:Int) (k0:Nat) (ps:List (Rec×Nat)) (k:Nat):Prop:=
 pls (l.drop k0) b k0=(ps++(pls (l.drop k) (b+ps.length) k).1,(pls (l.drop k) (b+ps.length) k).2)
theorem PRel.start (l:List UInt8) (b:Int) (k:Nat):PRel l b k [] k:=by unfold PRel;simp
theorem PRel.step {l:List UInt8} {b:Int} {k0 k j:Nat} {ps:List (Rec×Nat)} {r:Rec} (h:PRel l b k0 ps k) (hn:nxt (l.drop k)=(r,j,0)) (hj:0<j) (hl:j<=(l.drop k).length) (ha:r.a=b+ps.length):
 PRel l b k0 (ps++[(r,k)]) (k+j):=by
 unfold PRel at*;rw [h,pls_go hn hj hl ha,List.drop_drop]
 have e:b+(ps.length:Int)+1=b+((ps++[(r,k)]).length:Int):=by rw [List.length_append,List.length_singleton];omega
 rw [e]
 simp
theorem PRel.stop {l:List UInt8} {b:Int} {k0 k:Nat} {ps:List (Rec×Nat)} {e:Int} (h:PRel l b k0 ps k) (hk:k<l.length) (hn:nxt (l.drop k)=(zero,0,e)) (he:e≠0):pls (l.drop k0) b k0=(ps,k,e):=by
 unfold PRel at h;rw [h,ziz (by rw [<-List.length_pos_iff,List.length_drop];omega) hn he]
 simp
theorem PRel.form {l:List UInt8} {b:Int} {k0 k j:Nat} {ps:List (Rec×Nat)} {r:Rec} (h:PRel l b k0 ps k) (hk:k<l.length) (hn:nxt (l.drop k)=(r,j,0)) (ha:r.a≠b+ps.length):pls (l.drop k0) b k0=(ps,k,3):=by
 unfold PRel at h;rw [h,pls_form hn (by rw [<-List.length_pos_iff,List.length_drop];omega) ha]
 simp
theorem PRel.done {l:List UInt8} {b:Int} {k0 k:Nat} {ps:List (Rec×Nat)} (h:PRel l b k0 ps k) (hk:l.length<=k):pls (l.drop k0) b k0=(ps,k,0):=by
 unfold PRel at h;rw [h,List.drop_eq_nil_of_le hk,zkN]
 simp
def full (l:List UInt8) (b:Int):List (Rec×Nat)×Nat×Int:=if inB b=true then pls l b 0 else ([],0,1)
theorem full_in {l:List UInt8} {b:Int} (h:inB b=true):full l b=pls (l.drop 0) b 0:=by unfold full;rw [if_pos h];rfl
theorem full_out {l:List UInt8} {b:Int} (h:inB b=false):full l b=([],0,1):=by unfold full;rw [if_neg (by simp [h])]
structure Good (l:List UInt8) (b:Int) (k0:Nat) (ps:List (Rec×Nat)) (k:Nat):Prop where
 ok:∀p∈ps,Ok p.1
 at_:∀i (h:i<ps.length),ps[i].1.a=b+i
 lo:∀i (h:i<ps.length),k0+7*i<=ps[i].2/\ps[i].2+7<=k
 up:∀i (h:i+1<ps.length),ps[i].2<ps[i+1].2
 le:k<=l.length\/k=k0
 few:k0+7*ps.length<=k
theorem Good.start (l:List UInt8) (b:Int) (k:Nat):Good l b k [] k:=
 ⟨by simp,by simp,by simp,by simp,.inr rfl,by simp⟩
theorem Good.step {l:List UInt8} {b:Int} {k0 k j:Nat} {ps:List (Rec×Nat)} {r:Rec} (h:Good l b k0 ps k) (hok:Ok r) (ha:r.a=b+ps.length) (hj:7<=j) (hl:j<=(l.drop k).length):
 Good l b k0 (ps++[(r,k)]) (k+j):=by
 rw [List.length_drop] at hl;obtain ⟨h1,h2,h3,h4,h5,h6⟩:=h;refine ⟨fun p hp=>?_,fun i hi=>?_,fun i hi=>?_,fun i hi=>?_,.inl (by omega),?_⟩
 · rw [List.mem_append] at hp
   rcases hp with hp | hp
   · exact h1 p hp
   · rw [List.mem_singleton] at hp;subst hp;exact hok
 · rw [List.length_append,List.length_singleton] at hi
   rw [List.getElem_append]
   split
   · exact h2 i _
   · rw [List.getElem_singleton]
     have:i=ps.length:=by omega
     rw [this];exact ha
 · rw [List.length_append,List.length_singleton] at hi
   rw [List.getElem_append]
   split
   · have:=h3 i (by assumption);omega
   · rw [List.getElem_singleton]
     exact ⟨by show _<=k;omega,by show k+7<=_;omega⟩
 · rw [List.length_append,List.length_singleton] at hi
   rw [List.getElem_append_left (by omega)]
   rw [List.getElem_append]
   split
   · exact h4 i _
   · rw [List.getElem_singleton]
     have:=(h3 i (by omega)).2
     show _<k;omega
 · rw [List.length_append,List.length_singleton];omega
theorem ziL:∀(n:Nat) (l:List UInt8) (b:Int) (k0 k:Nat) (ps:List (Rec×Nat)),l.length-k<=n->PRel l b k0 ps k->Good l b k0 ps k->
 ∃ps' k' e,pls (l.drop k0) b k0=(ps',k',e)/\Good l b k0 ps' k'/\(e=0\/e=2\/e=3\/e=4\/e=5\/e=6)
 | n,l,b,k0,k,ps,hn,h,hg=>by
  by_cases hk:k<l.length
  · rcases zgD (l.drop k) with ⟨e,he,h3⟩ | ⟨r,j,he,hok,h5,h6,_⟩
    · exact ⟨ps,k,e,h.stop hk he (by omega),hg,by omega⟩
    · by_cases ha:r.a=b+ps.length
      · cases n with
        | zero=>omega
        | succ n=>
         have h6':=h6;rw [List.length_drop] at h6';exact ziL n l b k0 (k+j) (ps++[(r,k)]) (by omega) (h.step he (by omega) h6 ha) (hg.step hok ha h5 h6)
      · exact ⟨ps,k,3,h.form hk he ha,hg,by omega⟩
  · exact ⟨ps,k,0,h.done (by omega),hg,by omega⟩
theorem full_good (l:List UInt8) (b:Int):∃ps k e,full l b=(ps,k,e)/\Good l b 0 ps k/\(ps≠[]->inB b=true)/\0<=e/\e<=6:=by
 by_cases h:inB b=true
 · obtain ⟨ps,k,e,h1,h2,h3⟩:=ziL l.length l b 0 0 [] (by omega) (PRel.start l b 0) (Good.start l b 0)
   exact ⟨ps,k,e,by rw [full_in h,h1],h2,fun _=>h,by omega,by omega⟩
 · exact ⟨[],0,1,full_out (by simpa using h),Good.start l b 0,fun h=>absurd rfl h,by omega,by omega⟩
def withAt:List Rec->Nat->List (Rec×Nat)
 | [],_=>[]
 | r::l,k=>(r,k)::withAt l (k+(Fr.fr (body r)).length)
theorem withAt_fst:∀(l:List Rec) (k:Nat),(withAt l k).map Prod.fst=l
 | [],_=>rfl
 | r::l,k=>by rw [withAt,List.map_cons,withAt_fst l]
theorem withAt_len (l:List Rec) (k:Nat):(withAt l k).length=l.length:=by
 have:=congrArg List.length (withAt_fst l k)
 rwa [List.length_map] at this
def Rise (b:Int):List Rec->Prop
 | []=>True
 | r::l=>r.a=b/\Rise (b+1) l
theorem pls_rows:∀(l:List Rec) (b:Int) (k:Nat) (rest:List UInt8) (e:Int),(∀r∈l,Ok r)->Rise b l->(rest=[]/\e=0\/rest≠[]/\nxt rest=(zero,0,e)/\e≠0)->
 pls (rowB l++rest) b k=(withAt l k,k+(rowB l).length,e)
 | [],b,k,rest,e,_,_,h=>by
  rw [rowB_nil,List.nil_append]
  rcases h with ⟨rfl,rfl⟩ | ⟨h1,h2,h3⟩
  · rw [zkN];rfl
  · rw [ziz h1 h2 h3];rfl
 | r::l,b,k,rest,e,hok,hr,h=>by
  have h1:=hok r mcs;have h2:=nxt_fr h1 (rowB l++rest);rw [rowB_cons,List.append_assoc,pls_go h2 (by have:=fr_le h1;omega) (by rw [List.length_append];omega) hr.1,List.drop_left' rfl,pls_rows l (b+1) _ rest e (fun x hx=>hok x (mcm hx)) hr.2 h];rw [withAt,List.length_append]
  congr 1
  rw [Nat.add_assoc]
theorem nxt_cut {r:Rec} (h:Ok r) {n:Nat} (hn:n<(Fr.fr (body r)).length):nxt ((Fr.fr (body r)).take n)=(zero,0,2):=
 nxt_no (Fr.nx_fr_cut _ _ (body_may h) hn) (by decide)
end Gp
namespace Rt
structure Sg where
 b:Int
 n:Int
 z:Int
def zero:Sg:=⟨0,0,0⟩
def sumZ (l:List Sg):Int:=l.foldl (fun s x=>s+x.z) 0
def sumN (l:List Sg):Int:=l.foldl (fun s x=>s+x.n) 0
theorem foldZ (l:List Sg):∀s:Int,l.foldl (fun s x=>s+x.z) s=s+sumZ l:=by
 unfold sumZ
 induction l with
 | nil=>intro s;simp
 | cons x l ih=>intro s;rw [List.foldl_cons,List.foldl_cons,ih (s+x.z),ih (0+x.z)];omega
theorem foldN (l:List Sg):∀s:Int,l.foldl (fun s x=>s+x.n) s=s+sumN l:=by
 unfold sumN
 induction l with
 | nil=>intro s;simp
 | cons x l ih=>intro s;rw [List.foldl_cons,List.foldl_cons,ih (s+x.n),ih (0+x.n)];omega
theorem zf8 (x:Sg) (l:List Sg):sumZ (x::l)=x.z+sumZ l:=by
 show List.foldl _ _ _=_;rw [List.foldl_cons,foldZ];omega
theorem zf9 (x:Sg) (l:List Sg):sumN (x::l)=x.n+sumN l:=by
 show List.foldl _ _ _=_;rw [List.foldl_cons,foldN];omega
theorem zhj (a b:List Sg):sumZ (a++b)=sumZ a+sumZ b:=by
 show List.foldl _ _ _=_;rw [List.foldl_append,foldZ]
 rfl
theorem zhk (a b:List Sg):sumN (a++b)=sumN a+sumN b:=by
 show List.foldl _ _ _=_;rw [List.foldl_append,foldN]
 rfl
theorem zfX {l:List Sg} {k:Nat} (h:k<l.length):l.take (k+1)=l.take k++[l.getD k zero]:=by
 rw [List.take_succ_eq_append_getElem h]
 simp [List.getD_eq_getElem?_getD,h]
theorem drop_at {l:List Sg} {k:Nat} (h:k<l.length):l.drop k=l.getD k zero::l.drop (k+1):=by
 rw [List.drop_eq_getElem_cons h]
 simp [List.getD_eq_getElem?_getD,h]
theorem zkg {l:List Sg} {k:Nat} (h:k<l.length):sumZ (l.take (k+1))=sumZ (l.take k)+(l.getD k zero).z:=by
 rw [zfX h,zhj,zf8];show _+(_+0)=_;omega
theorem zkh {l:List Sg} {k:Nat} (h:k<l.length):sumN (l.take (k+1))=sumN (l.take k)+(l.getD k zero).n:=by
 rw [zfX h,zhk,zf9];show _+(_+0)=_;omega
def Fit (x:Sg):Prop:=0<=x.n/\x.n<=1099511627776/\0<=x.z/\x.z<=1099511627776
def May (l:List Sg):Prop:=l.length<=4096/\∀x∈l,Fit x
theorem Fit.zero:Fit zero:=⟨by decide,by decide,by decide,by decide⟩
theorem May.at_ {l:List Sg} (h:May l) (k:Nat):Fit (l.getD k zero):=by
 by_cases hk:k<l.length
 · rw [show l.getD k zero=l[k] by simp [List.getD_eq_getElem?_getD,hk]]
   exact h.2 _ (List.getElem_mem hk)
 · rw [show l.getD k zero=zero by simp [List.getD_eq_getElem?_getD,List.getElem?_eq_none (Nat.le_of_not_lt hk)]]
   exact Fit.zero
theorem May.drop {l:List Sg} (h:May l) (k:Nat):May (l.drop k):=⟨by rw [List.length_drop];have:=h.1;omega,fun x hx=>h.2 x (List.mem_of_mem_drop hx)⟩
theorem May.take {l:List Sg} (h:May l) (k:Nat):May (l.take k):=⟨by rw [List.length_take];have:=h.1;omega,fun x hx=>h.2 x (List.mem_of_mem_take hx)⟩
theorem zf7:∀{l:List Sg},(∀x∈l,Fit x)->0<=sumZ l/\sumZ l<=1099511627776*(l.length:Int)/\0<=sumN l/\sumN l<=1099511627776*(l.length:Int)
 | [],_=>⟨by decide,by decide,by decide,by decide⟩
 | x::l,h=>by
  obtain ⟨h1,h2,h3,h4⟩:=h x mcs;obtain ⟨i1,i2,i3,i4⟩:=zf7 fun y hy=>h y (mcm hy);rw [zf8,zf9,List.length_cons]
  refine ⟨?_,?_,?_,?_⟩<;>omega
theorem May.sums {l:List Sg} (h:May l):0<=sumZ l/\sumZ l<=4503599627370496/\0<=sumN l/\sumN l<=4503599627370496:=by
 obtain ⟨h1,h2,h3,h4⟩:=zf7 h.2;have:=h.1
 refine ⟨?_,?_,?_,?_⟩<;>omega
def Much (l:List Sg) (keep count:Int):Prop:=1<l.length/\(keep<sumZ (l.take (l.length-1))\/count<sumN l)
def IsPick (l:List Sg) (keep count:Int) (k:Nat):Prop:=(l=[]/\k=0)\/(k<l.length/\¬Much (l.drop k) keep count/\∀j,j<k->Much (l.drop j) keep count)
theorem IsPick.one {l:List Sg} {keep count:Int} {k m:Nat} (h:IsPick l keep count k) (h':IsPick l keep count m):k=m:=by
 rcases h with ⟨rfl,rfl⟩ | ⟨a1,a2,a3⟩
 · rcases h' with ⟨_,rfl⟩ | ⟨b1,_,_⟩
   · rfl
   · simp at b1
 · rcases h' with ⟨rfl,_⟩ | ⟨b1,b2,b3⟩
   · simp at a1
   · rcases Nat.lt_trichotomy k m with h | h | h
     · exact absurd (b3 k h) a2
     · exact h
     · exact absurd (a3 m h) b2
theorem last_not {l:List Sg} {keep count:Int} {k:Nat} (h:l.length<=k+1):¬Much (l.drop k) keep count:=fun ⟨h1,_⟩=>by rw [List.length_drop] at h1;omega
theorem pick_some (l:List Sg) (keep count:Int):∃k,IsPick l keep count k:=by
 by_cases h0:l=[]
 · exact ⟨0,.inl ⟨h0,rfl⟩⟩
 · have hl:0<l.length:=List.length_pos_iff.2 h0
   have key:∀n k,k+n+1=l.length->(∀j,j<k->Much (l.drop j) keep count)->∃k,IsPick l keep count k:=by
    intro n
    induction n with
    | zero=>exact fun k hk h=>⟨k,.inr ⟨by omega,last_not (by omega),h⟩⟩
    | succ n ih=>
     intro k hk h
     by_cases hm:Much (l.drop k) keep count
     · exact ih (k+1) (by omega) fun j hj=>by
        by_cases e:j=k
        · subst e;exact hm
        · exact h j (by omega)
     · exact ⟨k,.inr ⟨by omega,hm,h⟩⟩
   exact key (l.length-1) 0 (by omega) fun j hj=>absurd hj (Nat.not_lt_zero j)
theorem IsPick.lt {l:List Sg} {keep count:Int} {k:Nat} (h:IsPick l keep count k):k<=l.length/\(0<l.length->k<l.length):=by
 rcases h with ⟨rfl,rfl⟩ | ⟨h,_,_⟩
 · exact ⟨Nat.zero_le _,fun h=>h⟩
 · exact ⟨Nat.le_of_lt h,fun _=>h⟩
theorem IsPick.again {l:List Sg} {keep count:Int} {k:Nat} (h:IsPick l keep count k):IsPick (l.drop k) keep count 0:=by
 rcases h with ⟨rfl,rfl⟩ | ⟨a1,a2,a3⟩
 · exact .inl ⟨rfl,rfl⟩
 · exact .inr ⟨by rw [List.length_drop];omega,by rw [List.drop_zero];exact a2,fun j hj=>absurd hj (Nat.not_lt_zero j)⟩
end Rt
namespace So
open Dp
structure St where
 d:Dk
 v:Int
 g:List Rt.Sg
 x:Int
 s:Int
 z:Int
 c:Int
def floor (S:St):Int:=(S.g.headD Rt.zero).b
def man (S:St):Qm.Mn:=⟨S.v,S.g.map (·.b),S.z,S.c⟩
def lastG (S:St):Rt.Sg:=S.g.getD (S.g.length-1) Rt.zero
def zat (S:St):St×Int:=({S with d:=(sync S.d (segN (lastG S).b)).1,s:=if (sync S.d (segN (lastG S).b)).2=0 then S.x else S.s},(sync S.d (segN (lastG S).b)).2)
def more (S:St) (D:Dk):St:={S with d:=D,v:=S.v+1,g:=S.g++[⟨S.x,0,0⟩]}
noncomputable def roll (S:St):St×Int:=
 if 64<=S.g.length then (S,9)
 else if (zat S).2≠0 then zat S
 else
  let T:=(zat S).1
  let C:=create T.d (segN T.x)
  if C.2≠0 then ({T with d:=C.1},C.2)
  else
   let W:=swap C.1 (man (more T C.1))
   if W.2=9 then
    let X:=delete W.1 (segN T.x)
    ({T with d:=X.1},if X.2=0 then 9 else X.2)
   else if W.2≠0 then ({T with d:=W.1},W.2)
   else (more T W.1,0)
def grown (g:List Rt.Sg) (n:Nat):List Rt.Sg:=g.set (g.length-1) ⟨(g.getD (g.length-1) Rt.zero).b,(g.getD (g.length-1) Rt.zero).n+1,(g.getD (g.length-1) Rt.zero).z+n⟩
def put (S:St) (r:Rp.Rec):St×Int:=
 let s:=Rp.putB r
 let A:=append S.d (segN (lastG S).b) ⟨s.toArray⟩
 if A.2≠0 then ({S with d:=A.1},A.2) else ({S with d:=A.1,g:=grown S.g s.length,x:=S.x+1},0)
noncomputable def append (S:St) (q:Int) (r:Rp.Rec):St×Int:=
 open Classical in
 if ¬(Rp.Ok r/\r.a=S.x) then (S,1)
 else if 1099511627776<=S.x then (S,13)
 else if q<=(lastG S).z then (if (roll S).2≠0 then roll S else put (roll S).1 r)
 else put S r
noncomputable def zal (D:Dk):St×Int:=
 if (create D (segN 0)).2≠0 then (⟨(create D (segN 0)).1,0,[],0,0,0,0⟩,(create D (segN 0)).2)
 else
  let S:St:=⟨(create D (segN 0)).1,1,[⟨0,0,0⟩],0,0,0,0⟩
  let W:=swap S.d (man S)
  if W.2≠0 then (⟨W.1,0,[],0,0,0,0⟩,W.2) else ({S with d:=W.1},0)
def Fulls (D:Dk) (q:Int):List Rt.Sg->Int->List Rp.Rec->Prop
 | [],_,rs=>rs=[]
 | g::t,b,rs=>g.b=b/\∃l r,rs=l++r/\l≠[]/\g.n=(l.length:Int)/\dat D (segN b)=some (Rp.rowB l)/\g.z=((Rp.rowB l).length:Int)/\q<=g.z/\g.z<=q+90/\Fulls D q t (b+g.n) r
theorem Fulls.bases {D:Dk} {q:Int}:∀{t:List Rt.Sg} {b:Int} {rs:List Rp.Rec},Fulls D q t b rs->∀g∈t,b<=g.b/\g.b<b+rs.length
 | [],_,_,_,g,hg=>by cases hg
 | a::t,b,rs,⟨a1,l,r,a2,a3,a4,_,_,_,_,a9⟩,g,hg=>by
  have hp:0<l.length:=List.length_pos_iff.2 a3;subst a2;rw [List.length_append]
  rcases List.mem_cons.1 hg with rfl | hg
  · omega
  · have:=a9.bases g hg
    omega
structure Inv (q:Int) (S:St) (rs:List Rp.Rec):Prop where
 dr:Right S.d
 ok:∀r∈rs,Rp.Ok r
 up:Gp.Rise 0 rs
 x:S.x=(rs.length:Int)
 s0:0<=S.s
 s1:S.s<=S.x
 seg:∃t g l r,S.g=t++[g]/\rs=l++r/\Fulls S.d q t 0 l/\g.b=(l.length:Int)/\g.n=(r.length:Int)/\dat S.d (segN g.b)=some (Rp.rowB r)/\g.z=((Rp.rowB r).length:Int)/\g.z<=q+90
theorem zcm {α:Type} (t:List α) (g z:α):(t++[g]).getD ((t++[g]).length-1) z=g:=by
 simp [List.getD_eq_getElem?_getD]
theorem zgk:∀(b:Int) (rs:List Rp.Rec) (r:Rp.Rec),Gp.Rise b rs->r.a=b+rs.length->Gp.Rise b (rs++[r])
 | b,[],r,_,h=>⟨by simpa using h,trivial⟩
 | b,a::l,r,h,h2=>⟨h.1,zgk (b+1) l r h.2 (by rw [List.length_cons] at h2;omega)⟩
theorem zjF (t:List Rt.Sg) (g:Rt.Sg) (n:Nat):grown (t++[g]) n=t++[⟨g.b,g.n+1,g.z+n⟩]:=by
 unfold grown;rw [zcm]
 simp
end So
namespace Fp
structure Pr where
 k:UInt8
 v:ByteArray
def zero:Pr:=⟨0,⟨#[]⟩⟩
def lo (c:UInt8) (l:List Pr):List Pr:=l.filter fun p=>decide (p.k.toNat<c.toNat)
def hi (c:UInt8) (l:List Pr):List Pr:=l.filter fun p=>decide (c.toNat<p.k.toNat)
def key (s:ByteArray):UInt8:=s.data.toList.headD 0
def val (s:ByteArray):ByteArray:=s.extract 1 s.size
def mid (s:ByteArray):List Pr:=if s.size=1 then [] else [⟨key s,val s⟩]
def step (l:List Pr) (s:ByteArray):List Pr:=if s.size=0 then l else lo (key s) l++mid s++hi (key s) l
def fold (l:List Pr) (ss:List ByteArray):List Pr:=ss.foldl step l
def Up (l:List Pr):Prop:=l.Pairwise fun a b=>a.k.toNat<b.k.toNat
def OkV (v:ByteArray):Prop:=1<=v.size/\v.size<=63
def St (l:List Pr):Prop:=(∀p∈l,OkV p.v)/\Up l
noncomputable def stB (l:List Pr):Bool:= @decide (St l) (Classical.propDecidable _)
theorem stB_yes {l:List Pr} (h:St l):stB l=true:=by unfold stB;exact @decide_eq_true _ (Classical.propDecidable _) h
theorem stB_no {l:List Pr} (h:¬St l):stB l=false:=by unfold stB;exact @decide_eq_false _ (Classical.propDecidable _) h
theorem stB_st {l:List Pr} (h:stB l=true):St l:=by unfold stB at h;exact @of_decide_eq_true _ (Classical.propDecidable _) h
theorem Up.nil:Up []:=List.Pairwise.nil
theorem St.nil:St []:=⟨by simp,Up.nil⟩
theorem Up.lo {l:List Pr} (c:UInt8) (h:Up l):Up (lo c l):=List.Pairwise.filter _ h
theorem Up.hi {l:List Pr} (c:UInt8) (h:Up l):Up (hi c l):=List.Pairwise.filter _ h
theorem zk5 {c:UInt8} {l:List Pr} {p:Pr}:p∈lo c l↔p∈l/\p.k.toNat<c.toNat:=by unfold lo;simp
theorem mem_hi {c:UInt8} {l:List Pr} {p:Pr}:p∈hi c l↔p∈l/\c.toNat<p.k.toNat:=by unfold hi;simp
theorem zhR {s:ByteArray} {p:Pr} (h:p∈mid s):p=⟨key s,val s⟩/\s.size≠1:=by
 unfold mid at h
 split at h
 · cases h
 · rename_i h1;exact ⟨by simpa using h,h1⟩
theorem Up.step {l:List Pr} (s:ByteArray) (h:Up l):Up (step l s):=by
 unfold Fp.step
 split
 · exact h
 · unfold Up
   rw [List.pairwise_append,List.pairwise_append]
   refine ⟨⟨h.lo _,?_,?_⟩,h.hi _,?_⟩
   · unfold mid;split<;>simp
   · intro a ha b hb
     rw [(zhR hb).1]
     exact (zk5.1 ha).2
   · intro a ha b hb
     have:=(mem_hi.1 hb).2
     rcases List.mem_append.1 ha with h1 | h1
     · have:=(zk5.1 h1).2;omega
     · rw [(zhR h1).1];exact this
theorem St.step {l:List Pr} {s:ByteArray} (h:St l) (hs:s.size<=64):St (step l s):=by
 refine ⟨?_,h.2.step s⟩;intro p hp;unfold Fp.step at hp
 split at hp
 · exact h.1 p hp
 · rename_i h0
   rcases List.mem_append.1 hp with hp | hp
   · rcases List.mem_append.1 hp with hp | hp
     · exact h.1 p (zk5.1 hp).1
     · obtain ⟨rfl,h1⟩:=zhR hp
       unfold OkV val
       simp
       omega
   · exact h.1 p (mem_hi.1 hp).1
theorem fold_append (l:List Pr) (a b:List ByteArray):fold l (a++b)=fold (fold l a) b:=by unfold fold;simp
theorem St.fold {l:List Pr} {ss:List ByteArray} (h:St l) (hs:∀s∈ss,s.size<=64):St (fold l ss):=by
 induction ss generalizing l with
 | nil=>exact h
 | cons s ss ih=>exact ih (h.step (hs s (by simp))) (fun t ht=>hs t (by simp [ht]))
theorem Up.le_key {l:List Pr} (h:Up l):∀i (hi:i<l.length),i<=(l[i]).k.toNat:=by
 intro i
 induction i with
 | zero=>intro _;omega
 | succ i ih=>
  intro hi;have h1:=ih (by omega);have h2:=List.pairwise_iff_getElem.1 h i (i+1) (by omega) hi (by omega);omega
theorem Up.len {l:List Pr} (h:Up l):l.length<=256:=by
 rcases Nat.lt_or_ge 256 l.length with h1 | h1
 · have:=h.le_key 256 h1
   have:=(l[256]).k.toNat_lt
   omega
 · exact h1
theorem lo_at {l:List Pr} (c:UInt8) (i:Nat) (h1:∀j (hj:j<l.length),j<i->(l[j]).k.toNat<c.toNat) (h2:∀j (hj:j<l.length),i<=j->c.toNat<=(l[j]).k.toNat):
 lo c l=l.take i:=by
 unfold lo
 conv=>lhs;rw [<-List.take_append_drop i l,List.filter_append]
 have e1:(l.take i).filter (fun p=>decide (p.k.toNat<c.toNat))=l.take i:=by
  rw [List.filter_eq_self];intro p hp;obtain ⟨j,hj,rfl⟩:=List.getElem_of_mem hp;rw [List.length_take] at hj;rw [List.getElem_take]
  simpa using h1 j (by omega) (by omega)
 have e2:(l.drop i).filter (fun p=>decide (p.k.toNat<c.toNat))=[]:=by
  rw [List.filter_eq_nil_iff];intro p hp;obtain ⟨j,hj,rfl⟩:=List.getElem_of_mem hp;rw [List.length_drop] at hj;rw [List.getElem_drop];have:=h2 (i+j) (by omega) (by omega)
  simp;omega
 rw [e1,e2,List.append_nil]
theorem Up.at {l:List Pr} (h:Up l) {i j:Nat} (hj:j<l.length) (hij:i<j):(l[i]).k.toNat<(l[j]).k.toNat:=List.pairwise_iff_getElem.1 h i j (by omega) hj hij
theorem step_zero (l:List Pr) {s:ByteArray} (hs:s.size=0):step l s=l:=by unfold step;rw [if_pos hs]
def one (p:Pr):List UInt8:=p.k::(Vp.put p.v.size++p.v.data.toList)
def flat (l:List Pr):List UInt8:=l.flatMap one
def bytes (l:List Pr):List UInt8:=Vp.put l.length++flat l
theorem flat_snoc (l:List Pr) (p:Pr):flat (l++[p])=flat l++one p:=by unfold flat;simp
theorem zey (l:List Pr) (p:Pr):flat (p::l)=one p++flat l:=by unfold flat;simp
theorem one_len (p:Pr):(one p).length<=10+p.v.size:=by
 have:=Vp.put_len_le p.v.size;have e:p.v.data.toList.length=p.v.size:=rfl;unfold one;simp only [List.length_cons,List.length_append,e];omega
theorem flat_len (l:List Pr) (m:Nat) (h:∀p∈l,p.v.size<=m):(flat l).length<=l.length*(10+m):=by
 induction l with
 | nil=>simp [flat]
 | cons p l ih=>
  have h1:=ih (fun q hq=>h q (by simp [hq]));have h2:=one_len p;have h3:=h p (by simp);rw [zey,List.length_append,List.length_cons,Nat.add_mul];omega
def pairAt:List UInt8->Option (Pr×Nat)
 | []=>none
 | k::r=>match Vp.take r with
  | none=>none
  | some (n,j)=>if r.length<j+n then none else some (⟨k,⟨((r.drop j).take n).toArray⟩⟩,1+j+n)
def run:Nat->List UInt8->List Pr->Nat->Option (List Pr×Nat)
 | 0,_,acc,i=>some (acc,i)
 | n+1,L,acc,i=>match pairAt (L.drop i) with
  | none=>none
  | some (p,j)=>run n L (acc++[p]) (i+j)
noncomputable def parse (L:List UInt8):Option (List Pr):=
 match Vp.take L with
 | none=>none
 | some (n,j)=>if 256<n then none else match run n L [] j with
  | none=>none
  | some (ps,i)=>if i=L.length/\stB ps=true then some ps else none
theorem pairAt_len {l:List UInt8} {p:Pr} {j:Nat} (h:pairAt l=some (p,j)):0<j/\j<=l.length/\p.v.size<=l.length:=by
 cases l with
 | nil=>simp [pairAt] at h
 | cons k r=>
  simp only [pairAt] at h
  rcases ht:Vp.take r with _ | ⟨n,i⟩
  · rw [ht] at h;cases h
  · rw [ht] at h
    simp only at h
    split at h
    · cases h
    · have e:=Option.some.inj h
      have e1:=congrArg Prod.fst e
      have e2:=congrArg Prod.snd e
      simp only at e1 e2
      subst e1 e2;refine ⟨by omega,by simp;omega,?_⟩
      simp [ByteArray.size];omega
theorem zjz (p:Pr) (r:List UInt8) (h:p.v.size<9223372036854775808):pairAt (one p++r)=some (p,(one p).length):=by
 have e:p.v.data.toList.length=p.v.size:=rfl;unfold one;rw [List.cons_append,pairAt,List.append_assoc,Vp.take_put _ _ h]
 simp only
 rw [if_neg (by simp only [List.length_append,e];omega)]
 congr 2
 · cases p with
   | mk k v=>
    congr 1
    rw [List.drop_left,List.take_left' e]
 · simp only [List.length_cons,List.length_append,e];omega
theorem run_flat (l:List Pr):∀(A:List UInt8) (acc:List Pr),(∀p∈l,p.v.size<9223372036854775808)->run l.length (A++flat l) acc A.length=some (acc++l,A.length+(flat l).length):=by
 induction l with
 | nil=>intro A acc _;simp [run,flat]
 | cons p l ih=>
  intro A acc h;rw [List.length_cons,run,List.drop_left,zey,zjz p _ (h p (by simp))]
  simp only
  have h1:=ih (A++one p) (acc++[p]) (fun q hq=>h q (by simp [hq]));rw [List.length_append,List.append_assoc] at h1;rw [h1]
  simp [Nat.add_assoc]
theorem parse_bytes {l:List Pr} (h:St l):parse (bytes l)=some l:=by
 have hl:=h.2.len;unfold parse bytes;rw [Vp.take_put _ _ (by omega)]
 simp only
 rw [if_neg (by omega),run_flat l _ _ (fun p hp=>by have:=(h.1 p hp).2;omega)]
 simp only
 rw [if_pos ⟨by simp,by rw [List.nil_append];exact stB_yes h⟩]
 simp
theorem parse_st {L:List UInt8} {l:List Pr} (h:parse L=some l):St l:=by
 unfold parse at h
 split at h
 · cases h
 · split at h
   · cases h
   · split at h
     · cases h
     · split at h
       · rename_i h1
         have e:=Option.some.inj h
         subst e;exact stB_st h1.2
       · cases h
end Fp
end Go.Proofs.YtgmppfpllogdcaaGreat

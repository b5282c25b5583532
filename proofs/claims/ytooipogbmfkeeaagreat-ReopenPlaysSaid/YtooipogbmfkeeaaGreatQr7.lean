/-
  Parts of what the laws of this seat stand on:List,Row,FileVal.
-/
import Derived.ChangeArms
import Derived.Deep.RegionLaw
import Derived.Deep.Slices
import Derived.Deep.Strs
import Derived.Laws.CopyRow
import Derived.Laws.IdiomCopy
import Derived.Lib.Builder
import Derived.Lib.SmallJoins
import Derived.Test.YtooipogbmfkeeaaGreatQr1
import Derived.Test.YtooipogbmfkeeaaGreatQr6
set_option maxRecDepth 100000
set_option maxHeartbeats 6400000
namespace Go.Proofs.YtooipogbmfkeeaaGreat
section
open Go.RowKit
structure Lay (α:Type) where
 enc:α->List Value
 k:Nat
 len:∀x,(enc x).length=k
 one:∀x,∀u∈enc x,u.oneCell'=true
 pos:0<k
 T:TypeId
 ok:α->Prop
 z:α
variable {α:Type} (Y:Lay α)
def Lay.vals (l:List α):List Value:=l.flatMap Y.enc
theorem Lay.vals_cons (x:α) (l:List α):Y.vals (x::l)=Y.enc x++Y.vals l:=rfl
theorem Lay.vals_append (a b:List α):Y.vals (a++b)=Y.vals a++Y.vals b:=by unfold Lay.vals;simp
theorem Lay.vals_one (x:α):Y.vals [x]=Y.enc x:=by unfold Lay.vals;simp
theorem Lay.vals_len (l:List α):(Y.vals l).length=l.length*Y.k:=by
 induction l with
 | nil=>simp [Lay.vals]
 | cons x l ih=>rw [Lay.vals_cons,List.length_append,ih,Y.len,List.length_cons,Nat.add_mul];omega
theorem Lay.vals_cells (l:List α):∀u∈Y.vals l,u.oneCell'=true:=by
 intro u hu;unfold Lay.vals at hu;rw [List.mem_flatMap] at hu;obtain ⟨x,_,h⟩:=hu;exact Y.one x u h
theorem Lay.vals_take (l:List α):∀i,(Y.vals l).take (i*Y.k)=Y.vals (l.take i):=by
 induction l with
 | nil=>intro i;simp [Lay.vals]
 | cons x l ih=>
  intro i
  cases i with
  | zero=>simp [Lay.vals]
  | succ i=>
   have hn:(i+1)*Y.k=(Y.enc x).length+i*Y.k:=by rw [Y.len,Nat.add_mul,Nat.one_mul,Nat.add_comm]
   rw [Lay.vals_cons,List.take_succ_cons,Lay.vals_cons, <-ih i,hn,List.take_length_add_append]
theorem Lay.vals_drop (l:List α):∀i,(Y.vals l).drop (i*Y.k)=Y.vals (l.drop i):=by
 induction l with
 | nil=>intro i;simp [Lay.vals]
 | cons x l ih=>
  intro i
  cases i with
  | zero=>simp
  | succ i=>
   have hn:(i+1)*Y.k=(Y.enc x).length+i*Y.k:=by rw [Y.len,Nat.add_mul,Nat.one_mul,Nat.add_comm]
   rw [Lay.vals_cons,List.drop_succ_cons, <-ih i,hn,List.drop_length_add_append]
theorem Lay.vals_get (l:List α) (i j:Nat) (hi:i<l.length) (hj:j<Y.k):(Y.vals l)[i*Y.k+j]?=(Y.enc (l.getD i Y.z))[j]?:=by
 have e:l.getD i Y.z=l[i]:=by simp [List.getD_eq_getElem?_getD,hi]
 rw [e, <-List.getElem?_drop,Y.vals_drop,List.drop_eq_getElem_cons hi,Lay.vals_cons,List.getElem?_append_left (by rw [Y.len];exact hj)]
def IsL (w:World) (v:Value) (l:List α):Prop:=
 ∃a cap,v= .slice a l.length cap/\(l.length<=maxLen/\l.length<=cap)/\(∀x∈l,Y.ok x)/\
  (l=[]\/ ∃b off,a=some ⟨b,off,none⟩/\∀j u,(Y.vals l)[j]?=some u->w.cell? ⟨b,off+j,none⟩=some u)
variable {Y}
theorem IsL.nil (w:World) (a:Option Addr) (cap:Nat):IsL Y w (.slice a 0 cap) []:=⟨a,cap,rfl,⟨by simp,by simp⟩,by simp,.inl rfl⟩
theorem IsL.below {B:Nat} {w w':World} {v:Value} {l:List α} (h:IsL Y w v l) (hb:Below B w w') (hB:w.heap.size<=B):IsL Y w' v l:=by
 obtain ⟨a,cap,rfl,h1,h2,h3⟩:=h;refine ⟨a,cap,rfl,h1,h2,?_⟩
 rcases h3 with h3 | ⟨b,off,rfl,h4⟩
 · exact .inl h3
 · refine .inr ⟨b,off,rfl,fun j u hj=>?_⟩
   have c:=h4 j u hj
   exact (hb.cell (p:=⟨b,off+j,none⟩) (Nat.lt_of_lt_of_le (block_lt_of_cell c) hB)).trans c
theorem IsL.keep {w w':World} {v:Value} {l:List α} (h:IsL Y w v l) (hb:Below w.heap.size w w'):IsL Y w' v l:=h.below hb (Nat.le_refl _)
theorem IsL.at_ {w:World} {b off n cap:Nat} {l:List α} (h:IsL Y w (.slice (some ⟨b,off,none⟩) n cap) l) {i:Nat} (hi:i<n):∀j u,(Y.enc (l.getD i Y.z))[j]?=some u->w.cell? ⟨b,off+i*Y.k+j,none⟩=some u:=by
 obtain ⟨a',cap',e,_,_,h3⟩:=h
 injection e with e1 e2 e3
 subst e2;intro j u hj
 have hjk:j<Y.k:=by rw [<-Y.len (l.getD i Y.z)];exact (List.getElem?_eq_some_iff.1 hj).1
 rcases h3 with rfl | ⟨b',off',e,h4⟩
 · simp at hi
 · rw [<-e1] at e
   injection e with e
   injection e with e1 e2
   subst e1 e2;have:=h4 (i*Y.k+j) u (by rw [Y.vals_get l i j hi hjk];exact hj)
   rwa [<-Nat.add_assoc] at this
theorem IsL.len {w:World} {a:Option Addr} {n cap:Nat} {l:List α} (h:IsL Y w (.slice a n cap) l):n=l.length/\l.length<=maxLen:=by
 obtain ⟨a',cap',e,h1,_⟩:=h
 injection e with e1 e2 e3
 exact ⟨e2,h1.1⟩
theorem IsL.room {w:World} {a:Option Addr} {n cap:Nat} {l:List α} (h:IsL Y w (.slice a n cap) l):n<=cap:=by
 obtain ⟨a',cap',e,h1,_⟩:=h
 injection e with e1 e2 e3
 rw [e2,e3];exact h1.2
theorem IsL.ok {w:World} {v:Value} {l:List α} (h:IsL Y w v l):∀x∈l,Y.ok x:=by obtain ⟨_,_,_,_,h2,_⟩:=h;exact h2
theorem IsL.take {w:World} {a:Option Addr} {n cap k:Nat} {l:List α} (h:IsL Y w (.slice a n cap) l) (hk:k<=n):IsL Y w (.slice a k cap) (l.take k):=by
 obtain ⟨a',cap',e,h1,h2,h3⟩:=h
 injection e with e1 e2 e3
 subst e1 e2 e3
 have hl:(l.take k).length=k:=by rw [List.length_take];omega
 refine ⟨a,cap,by rw [hl],⟨by omega,by omega⟩,fun x hx=>h2 x (List.mem_of_mem_take hx),?_⟩
 rcases h3 with rfl | ⟨b,off,rfl,h4⟩
 · exact .inl (by simp)
 · refine .inr ⟨b,off,rfl,fun j u hj=>h4 j u ?_⟩
   rw [<-Y.vals_take,List.getElem?_take] at hj
   split at hj
   · exact hj
   · cases hj
theorem IsL.drop {w:World} {a:Option Addr} {b off n cap k:Nat} {l:List α} (h:IsL Y w (.slice (some ⟨b,off,none⟩) n cap) l) (hk:k<=n) (c:Nat) (hc:n-k<=c) (ha:a=some ⟨b,off+k*Y.k,none⟩\/n=k):IsL Y w (.slice a (n-k) c) (l.drop k):=by
 obtain ⟨a',cap',e,h1,h2,h3⟩:=h
 injection e with e1 e2 e3
 subst e2
 have hl:(l.drop k).length=l.length-k:=by rw [List.length_drop]
 refine ⟨a,c,by rw [hl],⟨by omega,by omega⟩,fun x hx=>h2 x (List.mem_of_mem_drop hx),?_⟩
 by_cases hlt:k<l.length
 · rcases ha with rfl | ha
   · rcases h3 with rfl | ⟨b',off',e,h4⟩
     · simp at hlt
     · rw [<-e1] at e
       injection e with e
       injection e with e1 e2
       subst e1 e2;refine .inr ⟨b,off+k*Y.k,rfl,fun j u hj=>?_⟩;rw [<-Y.vals_drop,List.getElem?_drop] at hj;rw [Nat.add_assoc];exact h4 _ u hj
   · omega
 · exact .inl (List.drop_eq_nil_of_le (by omega))
def OwnL (Y:Lay α) (w:World) (base:Nat) (v:Value) (l:List α):Prop:=w.ownsRow base Y.T Y.k v l.length (Y.vals l)
theorem OwnL.nil (w:World) (base:Nat):OwnL Y w base (.slice none 0 0) []:=World.ownsRow_nil _ _ _ _
theorem OwnL.keep {w w':World} {base:Nat} {v:Value} {l:List α} (h:OwnL Y w base v l) (b:Below w.heap.size w w'):OwnL Y w' base v l:=zaq h b
theorem OwnL.alloc {w:World} {base:Nat} {v:Value} {l:List α} (h:OwnL Y w base v l) (o:Obj):OwnL Y (w.alloc o) base v l:=World.ownsRow.alloc h o
theorem OwnL.lt {w:World} {base:Nat} {v:Value} {l:List α} (h:OwnL Y w base v l):∀k,v.ownBlock=some k->base<=k/\k<w.heap.size:=World.ownsRow.lt h
theorem OwnL.is {w:World} {base:Nat} {v:Value} {l:List α} (h:OwnL Y w base v l) (hm:l.length<=maxLen) (hb:∀x∈l,Y.ok x):IsL Y w v l:=by
 rcases h.2 with ⟨rfl,h0⟩ | ⟨g,cap,cur,rfl,h1⟩
 · have:l=[]:=by simpa using h0
   subst this
   exact IsL.nil w none 0
 · refine ⟨some ⟨g,0,none⟩,cap,rfl,⟨hm,h1.2.2.1⟩,hb,.inr ⟨g,0,rfl,fun j u hj=>?_⟩⟩
   have:=World.ownsRow.cells h (g:=g) rfl j u hj
   have e:(⟨g,0,none⟩:Addr).add j=⟨g,0+j,none⟩:=by unfold Addr.add;split<;>simp_all
   rwa [e] at this
theorem OwnL.snoc {w:World} {base n:Nat} {v:Value} {l:List α} {x:α} {cs:List Value} (h:w.ownsRow base Y.T Y.k v (l.length+1) (Y.vals l++cs)) (hc:cs=Y.enc x) (_hn:n=l.length):OwnL Y w base v (l++[x]):=by
 subst hc;unfold OwnL;rw [Y.vals_append,Y.vals_one,List.length_append];exact h
theorem OwnL.more {w:World} {base m:Nat} {v:Value} {l r:List α} {cs:List Value} (h:w.ownsRow base Y.T Y.k v (l.length+m) (Y.vals l++cs)) (hc:cs=Y.vals r) (hm:m=r.length):OwnL Y w base v (l++r):=by
 subst hc hm;unfold OwnL;rw [Y.vals_append,List.length_append];exact h
def OutL (Y:Lay α) (w:World) (base:Nat) (l:List α) (e:Ending) (w':World):Prop:=∃v,e= .returned v/\OwnL Y w' base v l/\Below base w w'
theorem OutL.mk {w w':World} {base:Nat} {l:List α} {v:Value} (h:OwnL Y w' base v l) (hb:Below base w w'):OutL Y w base l (.returned v) w':=⟨v,rfl,h,hb⟩
theorem IsL.news {w:World} {b off n cap:Nat} {l:List α} (h:IsL Y w (.slice (some ⟨b,off,none⟩) n cap) l):∀j u,(Y.vals l)[j]?=some u->w.cell? ((⟨b,off,none⟩:Addr).add j)=some u:=by
 obtain ⟨a',cap',e,_,_,h3⟩:=h
 injection e with e1 e2 e3
 intro j u hj
 have ea:(⟨b,off,none⟩:Addr).add j=⟨b,off+j,none⟩:=by unfold Addr.add;split<;>simp_all
 rw [ea]
 rcases h3 with rfl | ⟨b',off',e,h4⟩
 · simp [Lay.vals] at hj
 · rw [<-e1] at e
   injection e with e
   injection e with e1 e2
   subst e1 e2;exact h4 j u hj
theorem zas (w:World) (N:Nat) (cs:List Value) (T:TypeId) (h:w.heap.size=N):∀(j:Nat) (u:Value),cs[j]?=some u->(w.alloc (.cells cs.toArray T)).cell? ((⟨N,0,none⟩:Addr).add j)=some u:=by
 subst h;intro j u h
 have ea:(⟨w.heap.size,0,none⟩:Addr).add j=⟨w.heap.size,j,none⟩:=by unfold Addr.add;split<;>simp_all
 rw [ea,cell_of_row _ _ j cs.toArray T (0,0) (heap_alloc_new w _)]
 simpa using h
theorem zbQ {l:List α} {k:Nat} {z:α} (h:k<l.length):l.take (k+1)=l.take k++[l.getD k z]:=by
 rw [List.take_succ_eq_append_getElem h]
 simp [List.getD_eq_getElem?_getD,h]
theorem zao {l:List α} {k:Nat} {z:α} (h:k<l.length):l.getD k z=l[k]:=by simp [List.getD_eq_getElem?_getD,h]
theorem zav {P:Program} {ops:Array Oper} {o:Oper} {a:Act} {w:World} {K:Act->World->Prop} {Q:Exit->Act->World->Prop} {E:Prop}
 (hg:o.guard=none) (s x:Operand) (t:TypeId) (hop:o.op=Op.call {callee:=Callee.builtin Builtin.append,args:= #[s,x],argTypes:= #[t,t]})
 (base:Nat) (e:TypeId) (i:TypeInfo) (z:Value) (size bytes:Nat) (ht:P.underlying t=some (.slice e)) (hi:P.info? e=some i) (hz:i.zero=some z)
 (hsize:i.size=size) (hby:i.bytes=bytes) (hzs:z.cells.size=size) (hsz:0<size)
 (v:Value) (n:Nat) (xs:List Value) (hs:a.eval s=v) (hown:w.ownsRow base e size v n xs)
 (ad:Addr) (m c:Nat) (news:List Value) (hx:a.eval x= .slice (some ad) m c) (hl:news.length=m*size) (hnews:∀j u,news[j]?=some u->w.cell? (ad.add j)=some u) (h1:∀u∈news,u.oneCell'=true)
 (h63:n+m<=maxLen) (hbytes:(n+m)*bytes<=140737488355328) (hbase:base<=w.heap.size)
 (hK:∀v' w',w'.ownsRow base e size v' (n+m) (xs++news)->w.grownBy w' v.ownBlock->K (a.put o.dst v') w'):
 if Region.wanted o (yielded ops a.tmps)=true then Oper.wp P o a w K Q else E:=by
 have hw:Region.wanted o (yielded ops a.tmps)=true:=by simp [Region.wanted,hg]
 rw [if_pos hw];exact wp_append_own w s x t hop base e i z size bytes ht hi hz hsize hby hzs hsz v n xs hs hown ad m c news hx hl hnews h1 h63 hbytes hbase fun v' w' h2 h3 _=>hK v' w' h2 h3
def splice (cur:Array Value) (o:Nat) (vs:List Value):Array Value:=(cur.toList.take o++vs++cur.toList.drop (o+vs.length)).toArray
theorem zay {cur:Array Value} {o:Nat} {vs:List Value} (h:o+vs.length<=cur.size):(splice cur o vs).size=cur.size:=by
 unfold splice;simp only [List.size_toArray,List.length_append,List.length_take,List.length_drop,Array.length_toList];omega
theorem zcz {cur:Array Value} {o:Nat} {vs:List Value} (h:o<=cur.size) (n:Nat) (hn:n=o+vs.length):(splice cur o vs).toList.take n=cur.toList.take o++vs:=by
 subst hn;unfold splice;rw [List.take_left'];simp only [List.length_append,List.length_take,Array.length_toList];omega
theorem zcR {cur:Array Value} {o:Nat} {vs:List Value} (h:o<=cur.size) (n:Nat) (hn:n<=o):(splice cur o vs).toList.take n=cur.toList.take n:=by
 unfold splice;show (cur.toList.take o++vs++cur.toList.drop (o+vs.length)).take n=_;rw [List.append_assoc,List.take_append_of_le_length (by rw [List.length_take,Array.length_toList];omega),List.take_take,Nat.min_eq_left hn]
theorem zbo (g:Nat) (t:TypeId):∀(vs:List Value) (o:Nat) (cur:Array Value) (w:World),w.heap[g]?=some (.cells cur t (0,0))->o+vs.length<=cur.size->w.setCells g o vs=w.setRow g (splice cur o vs)
 | [],o,cur,w,hg,_=>by
  unfold splice;simp only [World.setCells,List.append_nil,List.length_nil,Nat.add_zero,List.take_append_drop,Array.toArray_toList];rw [setRow_self w g cur t (0,0) hg]
 | v::rest,o,cur,w,hg,hl=>by
  have hi:o<cur.size:=by simp at hl;omega
  have ih:=zbo g t rest (o+1) (cur.setIfInBounds o v) (w.setRow g (cur.setIfInBounds o v)) (setRow_heap w g cur _ t _ hg) (by simp at hl ⊢;omega);rw [World.setCells,setCell_eq_setRow w g o cur t (0,0) v hg,ih,setRow_setRow]
  congr 1
  unfold splice
  congr 1
  have e:=list_seg_step cur.toList o v rest (by simp at hl ⊢;omega)
  simpa [Array.toList_setIfInBounds,Nat.add_assoc] using e
theorem zar {w:World} {g:Nat} {t:TypeId} {cur:Array Value} {o:Nat} {vs:List Value} (hg:w.heap[g]?=some (.cells cur t (0,0))) (h:o+vs.length<=cur.size):(w.setCells g o vs).heap[g]?=some (.cells (splice cur o vs) t (0,0)):=by
 rw [zbo g t vs o cur w hg h];exact setRow_heap w g cur _ t _ hg
theorem zaI {base g:Nat} (hb:base<=g):∀(vs:List Value) (o:Nat) (w:World),Below base w (w.setCells g o vs)
 | [],_,_=>Below.refl _ _
 | v::r,o,_=>((Below.refl _ _).setCell (p:=⟨g,o,none⟩) hb v).trans (zaI hb r (o+1) _)
theorem zdb {w:World} {g:Nat} {t:TypeId} {cur:Array Value} (hg:w.heap[g]?=some (.cells cur t (0,0))) (j:Nat):w.cell? ⟨g,j,none⟩=cur.toList[j]?:=by
 rw [cell_of_row w g j cur t (0,0) hg,Array.getElem?_toList]
theorem zaM {w:World} {g:Nat} {t:TypeId} {cur:Array Value} (hg:w.heap[g]?=some (.cells cur t (0,0))) (j:Nat) (h:j<cur.size):(w.cell? ⟨g,j,none⟩).isSome=true/\w.frozen? ⟨g,j,none⟩=false:=by
 refine ⟨?_,frozen_of_row w g j cur t hg⟩;rw [cell_of_row w g j cur t (0,0) hg,Array.getElem?_eq_getElem h]
 rfl
theorem zdz {w:World} {g:Nat} {t:TypeId} {cur:Array Value} {n o:Nat} {xs:List Value} (hg:w.heap[g]?=some (.cells cur t (0,0))) (ht:cur.toList.take n=xs) (j:Nat) (u:Value) (h:(xs.drop o)[j]?=some u):w.cell? ⟨g,o+j,none⟩=some u:=by
 rw [zdb hg];rw [List.getElem?_drop, <-ht,List.getElem?_take] at h
 split at h
 · exact h
 · cases h
theorem zjt {cur:Array Value} {a b:Nat} {vs D:List Value} (hab:a+vs.length=b) (hf:b+D.length<=cur.size) (n:Nat) (hn:n=b+D.length):(splice (splice cur b D) a vs).toList.take n=cur.toList.take a++vs++D:=by
 subst hn;have e1:(splice cur b D).toList.take a=cur.toList.take a:=zcR (by omega) a (by omega)
 have e2:(splice cur b D).toList.drop (a+vs.length)=D++cur.toList.drop (b+D.length):=by
  rw [hab];unfold splice;show (cur.toList.take b++D++cur.toList.drop (b+D.length)).drop b=_;rw [List.append_assoc,List.drop_left' (by rw [List.length_take,Array.length_toList];omega)]
 unfold splice at*;show ((cur.toList.take b++D++cur.toList.drop (b+D.length)).toArray.toList.take a++vs++(cur.toList.take b++D++cur.toList.drop (b+D.length)).toArray.toList.drop (a+vs.length)).take (b+D.length)=_;rw [e1,e2, <-List.append_assoc,List.take_left'];simp only [List.length_append,List.length_take,Array.length_toList];omega
theorem zhH {cur:Array Value} {a b:Nat} {vs D:List Value} (hab:a+vs.length=b) (hf:b+D.length<=cur.size) (n:Nat) (hn:n=b+D.length):(splice (splice cur a vs) b D).toList.take n=cur.toList.take a++vs++D:=by
 rw [zcz (by rw [zay (by omega)];omega) n hn,zcz (by omega) b hab.symm]
theorem zgA {w:World} {g:Nat} {cur:Array Value} {t:TypeId} (hg:w.heap[g]?=some (.cells cur t (0,0))):w.shape? g=some (t,cur.size):=by unfold World.shape?;rw [hg]
variable {P:Program}
theorem zbL (w:World) (dT sT ty elem:TypeId) (size:Nat) (b o dLen dCap:Nat) (a:Addr) (sLen sCap:Nat) (cs:List Value)
 (hu:P.underlying dT=some (.slice elem)) (hs:(P.info? elem).map (·.size)=some size) (hn:cs.length=Nat.min sLen dLen*size)
 (hsrc:∀j v,cs[j]?=some v->w.cell? (a.add j)=some v) (hc:∀j,j<cs.length->(w.cell? ⟨b,o+j,none⟩).isSome=true/\w.frozen? ⟨b,o+j,none⟩=false) (h1:∀v∈cs,v.oneCell'=true):
 (Builtin.copy_ #[dT,sT] ty #[.slice (some ⟨b,o,none⟩) dLen dCap,.slice (some a) sLen sCap]).run P w= .ok (goInt (Nat.min sLen dLen)) (w.setCells b o cs):=by
 have hl:=run_firstCells_some (P:=P) w size (Nat.min sLen dLen) a sLen sCap cs hn hsrc;have hst:=run_storeCells_cells (P:=P) b o cs 0 w (by simpa using fun j hj=>(hc j hj).1) (by simpa using fun j hj=>(hc j hj).2) h1
 cases hq:P.info? elem with
 | none=>simp [hq] at hs
 | some i=>
  have hi:i.size=size:=by simpa [hq] using hs
  subst hi
  simp [Builtin.copy_,run_underlying hu,Builtin.lenOf,sizeOf,typeInfo,hq,hl,hst]
theorem zfG (w:World) (t e ty:TypeId) (z:Value) (zs:List Value) (ht:P.underlying t=some (.slice e)) (hv:∀w,(zeroValue e).run P w= .ok z w) (hz:(Builtin.zeroCells z.cells 1).toList=zs) (h1:∀v∈zs,v.oneCell'=true) (b o c:Nat)
 (hc:∀j,j<zs.length->(w.cell? ⟨b,o+j,none⟩).isSome=true/\w.frozen? ⟨b,o+j,none⟩=false):
 (Builtin.clear_ #[t] ty #[.slice (some ⟨b,o,none⟩) 1 c]).run P w= .ok (.tuple #[]) (w.setCells b o zs):=by
 have hst:=run_storeCells_cells (P:=P) b o zs 0 w (by simpa using fun j hj=>(hc j hj).1) (by simpa using fun j hj=>(hc j hj).2) h1;simp only [Nat.add_zero] at hst
 simp [Builtin.clear_,run_underlying ht,hv,hz,hst]
end
namespace Dsk
open Go.RowKit Go.ChangeShapes Go.WideShapes Go.Deep Go.Joins
def zaj (f:Dp.Fl):List Value:=[.string f.n,.string f.d,.int .i64 f.s]
def FlB (f:Dp.Fl):Prop:=f.n.size<=9223372036854775807/\f.d.size<=9223372036854775807/\ -9223372036854775808<=f.s/\f.s<=9223372036854775807
def zero:Dp.Fl:=⟨⟨#[]⟩,⟨#[]⟩,0⟩
@[simp] theorem flCells_len (f:Dp.Fl):(zaj f).length=3:=rfl
def FL:Lay Dp.Fl where
 enc:=zaj
 k:=3
 len:=flCells_len
 one:=by intro f u hu;simp [zaj] at hu;rcases hu with rfl | rfl | rfl<;>rfl
 pos:=by decide
 T:=45
 ok:=FlB
 z:=zero
theorem zcD:(Tryz.prog.info? 45).map (fun i=>(i.zero,i.size,i.bytes))=some (some (.agg #[.string ByteArray.empty,.string ByteArray.empty,.int .i64 0]),3,40):=by kernel_rfl
theorem _root_.Go.Proofs.YtooipogbmfkeeaaGreat.Lay.vals_snoc {α:Type} (Y:Lay α) (l:List α) (x:α):Y.vals (l++[x])=Y.vals l++Y.enc x:=by rw [Y.vals_append,Y.vals_one]
theorem vals_snoc (l:List Dp.Fl) (f:Dp.Fl):FL.vals (l++[f])=FL.vals l++zaj f:=FL.vals_snoc l f
theorem at3 {w:World} {b off n cap:Nat} {l:List Dp.Fl} (h:IsL FL w (.slice (some ⟨b,off,none⟩) n cap) l) {i:Nat} (hi:i<n):
 w.cell? ⟨b,off+i*3,none⟩=some (.string (l.getD i zero).n)/\w.cell? ⟨b,off+i*3+1,none⟩=some (.string (l.getD i zero).d)/\w.cell? ⟨b,off+i*3+2,none⟩=some (.int .i64 (l.getD i zero).s):=
 ⟨h.at_ hi 0 _ rfl,h.at_ hi 1 _ rfl,h.at_ hi 2 _ rfl⟩
theorem _root_.Go.Proofs.YtooipogbmfkeeaaGreat.OwnL.open_ {α:Type} {Y:Lay α} {w:World} {base:Nat} {v:Value} {l:List α} (h:OwnL Y w base v l) (hl:0<l.length):
 ∃g cap cur,v= .slice (some ⟨g,0,none⟩) l.length cap/\base<=g/\w.heap[g]?=some (.cells cur Y.T (0,0))/\l.length<=cap/\cap<=maxLen/\cur.size=cap*Y.k/\cur.toList.take (l.length*Y.k)=Y.vals l:=by
 rcases h.2 with ⟨_,h0⟩ | h1
 · omega
 · exact h1
theorem _root_.Go.Proofs.YtooipogbmfkeeaaGreat.OwnL.mk {α:Type} {Y:Lay α} {w:World} {base g cap:Nat} {cur:Array Value} {l:List α} (hb:base<=g) (hg:w.heap[g]?=some (.cells cur Y.T (0,0))) (hc:l.length<=cap) (hm:cap<=maxLen) (hs:cur.size=cap*Y.k) (ht:cur.toList.take (l.length*Y.k)=Y.vals l):
 OwnL Y w base (.slice (some ⟨g,0,none⟩) l.length cap) l:=⟨Y.vals_len l,.inr ⟨g,cap,cur,rfl,hb,hg,hc,hm,hs,ht⟩⟩
theorem zbi {w:World} {base:Nat} {v:Value} {l:List Dp.Fl} (h:OwnL FL w base v l) (hl:0<l.length):
 ∃g cap cur,v= .slice (some ⟨g,0,none⟩) l.length cap/\base<=g/\w.heap[g]?=some (.cells cur 45 (0,0))/\l.length<=cap/\cap<=maxLen/\cur.size=cap*3/\cur.toList.take (l.length*3)=FL.vals l:=h.open_ hl
theorem zer {w:World} {base g cap:Nat} {cur:Array Value} {l:List Dp.Fl} (hb:base<=g) (hg:w.heap[g]?=some (.cells cur 45 (0,0))) (hc:l.length<=cap) (hm:cap<=maxLen) (hs:cur.size=cap*3) (ht:cur.toList.take (l.length*3)=FL.vals l):
 OwnL FL w base (.slice (some ⟨g,0,none⟩) l.length cap) l:=OwnL.mk hb hg hc hm hs ht
theorem vals_len (l:List Dp.Fl):(FL.vals l).length=l.length*3:=FL.vals_len l
theorem vals_take (l:List Dp.Fl) (i:Nat):(FL.vals l).take (i*3)=FL.vals (l.take i):=FL.vals_take l i
theorem vals_drop (l:List Dp.Fl) (i:Nat):(FL.vals l).drop (i*3)=FL.vals (l.drop i):=FL.vals_drop l i
theorem zl1 (cap:Nat) (w:World):
 Calls Tryz.prog 134 #[.slice none 0 cap] w (OutL FL w w.heap.size []):=by
 have q22:∀(w:World) (a:Option Addr) (n c n' c':Nat),(binOp .eql 22 (.slice a n c) (.slice none n' c')).run Tryz.prog w= .ok (.bool a.isNone) w:=fun w a n c n' c'=>Lib.run_eql_slice_nil w _ _ a n c n' c' Tryz.underlying22;have HF:=zid (OutL.mk (OwnL.nil (Y:=FL) w w.heap.size) (Below.refl _ w))
 go_enter Tryz.func134,Tryz.ntmps134
 go_wp2_with fail;go_ret;exact HF.out
theorem zfq (x:Addr) (cap:Nat) (l:List Dp.Fl) (w:World) (hl:l.length<=1000000000000) (hc:∀j u,(FL.vals l)[j]?=some u->w.cell? (x.add j)=some u):
 Calls Tryz.prog 134 #[.slice (some x) l.length cap] w (OutL FL w w.heap.size l):=by
 obtain ⟨i0,hi0,hz0,hz1,hz2⟩:=info_parts zcD;have q22:∀(w:World) (a:Option Addr) (n c n' c':Nat),(binOp .eql 22 (.slice a n c) (.slice none n' c')).run Tryz.prog w= .ok (.bool a.isNone) w:=fun w a n c n' c'=>Lib.run_eql_slice_nil w _ _ a n c n' c' Tryz.underlying22;have HC:Hid (∀j u,(FL.vals l)[j]?=some u->(w.alloc (.cells #[] 45)).cell? (x.add j)=some u):=fun j u hj=>Lib.cell?_alloc_some _ (hc j u hj);have H1:=zid (FL.vals_cells l);have HL:=zid (vals_len l)
 have HF:Hid (∀v' w3,w3.ownsRow w.heap.size 45 3 v' (0+l.length) ([]++FL.vals l)->(w.alloc (.cells #[] 45)).grownBy w3 (some w.heap.size)->OutL FL w w.heap.size l (.returned v') w3):=by
  intro v' w3 h hg;rw [Nat.zero_add,List.nil_append] at h
  exact OutL.mk h (((Below.refl _ w).alloc (Nat.le_refl _) _).grown hg (by simp) (fun k hk=>by injection hk with hk;omega))
 have hown:=zid (World.ownsRow_made (e:=45) (size:=3) w #[] 0 (Nat.le_refl _) (Nat.zero_le _) (by simp));clear hc;generalize FL.vals l=xs at*;generalize l.length=len at*
 go_enter Tryz.func134,Tryz.ntmps134
 go_wp2_with (at_builtin;refine wpList_append_own _ rfl _ _ 22 rfl w.heap.size 45 i0 (.agg #[.string ByteArray.empty,.string ByteArray.empty,.int .i64 0]) 3 40 Tryz.underlying22 hi0 hz0 hz1 hz2 rfl (by decide) _ _ _ rfl hown.out x len cap xs rfl HL.out HC.out H1.out (by unfold maxLen;omega) (by omega) (by simp) ?_;intro v' w3 hown' hgrow3 hnil3)
 go_ret;exact HF.out v' w3 hown' hgrow3
theorem zl2 (v:Value) (l:List Dp.Fl) (w:World) (h:IsL FL w v l) (hl:l.length<=1000000000000):
 Calls Tryz.prog 134 #[v] w (OutL FL w w.heap.size l):=by
 obtain ⟨a,cap,rfl,_,_,h3⟩:=h
 rcases h3 with rfl | ⟨b,off,rfl,h4⟩
 · cases a with
   | none=>exact zl1 cap w
   | some x=>exact zfq x cap [] w (by simp) (by simp [Lay.vals])
 · exact zfq ⟨b,off,none⟩ cap l w hl (fun j u hj=>by rw [zak];exact h4 j u hj)
end Dsk
end Go.Proofs.YtooipogbmfkeeaaGreat

/-
  Parts of what the laws of this seat stand on:Row,FileVal,DiskFind,DiskDel.
-/
import Derived.BigQuiet
import Derived.ChangeArms
import Derived.Deep.QuietTactic
import Derived.Deep.RegionLaw
import Derived.Deep.Slices
import Derived.Deep.Strs
import Derived.IntWalk
import Derived.Laws.CopyRow
import Derived.Laws.IdiomCopy
import Derived.Lib.Builder
import Derived.Lib.Bytealg
import Derived.Lib.SliceRun
import Derived.Lib.SmallJoins
import Derived.Shelf.RegionOpenPlain
import Derived.Test.YtgmppfpllogdcaaGreatBi1
import Derived.Test.YtgmppfpllogdcaaGreatBi7
set_option maxRecDepth 100000
set_option maxHeartbeats 6400000
namespace Go.Proofs.YtgmppfpllogdcaaGreat
section
open Go.RowKit
def splice (cur:Array Value) (o:Nat) (vs:List Value):Array Value:=(cur.toList.take o++vs++cur.toList.drop (o+vs.length)).toArray
theorem zav {cur:Array Value} {o:Nat} {vs:List Value} (h:o+vs.length<=cur.size):(splice cur o vs).size=cur.size:=by
 unfold splice;simp only [List.size_toArray,List.length_append,List.length_take,List.length_drop,Array.length_toList];omega
theorem zcv {cur:Array Value} {o:Nat} {vs:List Value} (h:o<=cur.size) (n:Nat) (hn:n=o+vs.length):(splice cur o vs).toList.take n=cur.toList.take o++vs:=by
 subst hn;unfold splice;rw [List.take_left'];simp only [List.length_append,List.length_take,Array.length_toList];omega
theorem zcI {cur:Array Value} {o:Nat} {vs:List Value} (h:o<=cur.size) (n:Nat) (hn:n<=o):(splice cur o vs).toList.take n=cur.toList.take n:=by
 unfold splice;show (cur.toList.take o++vs++cur.toList.drop (o+vs.length)).take n=_;rw [List.append_assoc,List.take_append_of_le_length (by rw [List.length_take,Array.length_toList];omega),List.take_take,Nat.min_eq_left hn]
theorem zbk (g:Nat) (t:TypeId):∀(vs:List Value) (o:Nat) (cur:Array Value) (w:World),w.heap[g]?=some (.cells cur t (0,0))->o+vs.length<=cur.size->w.setCells g o vs=w.setRow g (splice cur o vs)
 | [],o,cur,w,hg,_=>by
  unfold splice;simp only [World.setCells,List.append_nil,List.length_nil,Nat.add_zero,List.take_append_drop,Array.toArray_toList];rw [setRow_self w g cur t (0,0) hg]
 | v::rest,o,cur,w,hg,hl=>by
  have hi:o<cur.size:=by simp at hl;omega
  have ih:=zbk g t rest (o+1) (cur.setIfInBounds o v) (w.setRow g (cur.setIfInBounds o v)) (setRow_heap w g cur _ t _ hg) (by simp at hl ⊢;omega);rw [World.setCells,setCell_eq_setRow w g o cur t (0,0) v hg,ih,setRow_setRow]
  congr 1
  unfold splice
  congr 1
  have e:=list_seg_step cur.toList o v rest (by simp at hl ⊢;omega)
  simpa [Array.toList_setIfInBounds,Nat.add_assoc] using e
theorem zaq {w:World} {g:Nat} {t:TypeId} {cur:Array Value} {o:Nat} {vs:List Value} (hg:w.heap[g]?=some (.cells cur t (0,0))) (h:o+vs.length<=cur.size):(w.setCells g o vs).heap[g]?=some (.cells (splice cur o vs) t (0,0)):=by
 rw [zbk g t vs o cur w hg h];exact setRow_heap w g cur _ t _ hg
theorem zaH {base g:Nat} (hb:base<=g):∀(vs:List Value) (o:Nat) (w:World),Below base w (w.setCells g o vs)
 | [],_,_=>Below.refl _ _
 | v::r,o,_=>((Below.refl _ _).setCell (p:=⟨g,o,none⟩) hb v).trans (zaH hb r (o+1) _)
theorem zcZ {w:World} {g:Nat} {t:TypeId} {cur:Array Value} (hg:w.heap[g]?=some (.cells cur t (0,0))) (j:Nat):w.cell? ⟨g,j,none⟩=cur.toList[j]?:=by
 rw [cell_of_row w g j cur t (0,0) hg,Array.getElem?_toList]
theorem zaK {w:World} {g:Nat} {t:TypeId} {cur:Array Value} (hg:w.heap[g]?=some (.cells cur t (0,0))) (j:Nat) (h:j<cur.size):(w.cell? ⟨g,j,none⟩).isSome=true/\w.frozen? ⟨g,j,none⟩=false:=by
 refine ⟨?_,frozen_of_row w g j cur t hg⟩;rw [cell_of_row w g j cur t (0,0) hg,Array.getElem?_eq_getElem h]
 rfl
theorem zd0 {w:World} {g:Nat} {t:TypeId} {cur:Array Value} {n o:Nat} {xs:List Value} (hg:w.heap[g]?=some (.cells cur t (0,0))) (ht:cur.toList.take n=xs) (j:Nat) (u:Value) (h:(xs.drop o)[j]?=some u):w.cell? ⟨g,o+j,none⟩=some u:=by
 rw [zcZ hg];rw [List.getElem?_drop, <-ht,List.getElem?_take] at h
 split at h
 · exact h
 · cases h
theorem zja {cur:Array Value} {a b:Nat} {vs D:List Value} (hab:a+vs.length=b) (hf:b+D.length<=cur.size) (n:Nat) (hn:n=b+D.length):(splice (splice cur b D) a vs).toList.take n=cur.toList.take a++vs++D:=by
 subst hn;have e1:(splice cur b D).toList.take a=cur.toList.take a:=zcI (by omega) a (by omega)
 have e2:(splice cur b D).toList.drop (a+vs.length)=D++cur.toList.drop (b+D.length):=by
  rw [hab];unfold splice;show (cur.toList.take b++D++cur.toList.drop (b+D.length)).drop b=_;rw [List.append_assoc,List.drop_left' (by rw [List.length_take,Array.length_toList];omega)]
 unfold splice at*;show ((cur.toList.take b++D++cur.toList.drop (b+D.length)).toArray.toList.take a++vs++(cur.toList.take b++D++cur.toList.drop (b+D.length)).toArray.toList.drop (a+vs.length)).take (b+D.length)=_;rw [e1,e2, <-List.append_assoc,List.take_left'];simp only [List.length_append,List.length_take,Array.length_toList];omega
theorem zhp {cur:Array Value} {a b:Nat} {vs D:List Value} (hab:a+vs.length=b) (hf:b+D.length<=cur.size) (n:Nat) (hn:n=b+D.length):(splice (splice cur a vs) b D).toList.take n=cur.toList.take a++vs++D:=by
 rw [zcv (by rw [zav (by omega)];omega) n hn,zcv (by omega) b hab.symm]
theorem zgc {w:World} {g:Nat} {cur:Array Value} {t:TypeId} (hg:w.heap[g]?=some (.cells cur t (0,0))):w.shape? g=some (t,cur.size):=by unfold World.shape?;rw [hg]
variable {P:Program}
theorem zbM (w:World) (dT sT ty elem:TypeId) (size:Nat) (b o dLen dCap:Nat) (a:Addr) (sLen sCap:Nat) (cs:List Value)
 (hu:P.underlying dT=some (.slice elem)) (hs:(P.info? elem).map (·.size)=some size) (hn:cs.length=Nat.min sLen dLen*size)
 (hsrc:∀j v,cs[j]?=some v->w.cell? (a.add j)=some v) (hc:∀j,j<cs.length->(w.cell? ⟨b,o+j,none⟩).isSome=true/\w.frozen? ⟨b,o+j,none⟩=false) (h1:∀v∈cs,v.oneCell'=true):
 (Builtin.copy_ #[dT,sT] ty #[.slice (some ⟨b,o,none⟩) dLen dCap,.slice (some a) sLen sCap]).run P w= .ok (goInt (Nat.min sLen dLen)) (w.setCells b o cs):=by
 have hl:=run_firstCells_some (P:=P) w size (Nat.min sLen dLen) a sLen sCap cs hn hsrc;have hst:=run_storeCells_cells (P:=P) b o cs 0 w (by simpa using fun j hj=>(hc j hj).1) (by simpa using fun j hj=>(hc j hj).2) h1
 cases hq:P.info? elem with
 | none=>simp [hq] at hs
 | some i=>
  have hi:i.size=size:=by simpa [hq] using hs
  subst hi
  simp [Builtin.copy_,run_underlying hu,Builtin.lenOf,sizeOf,typeInfo,hq,hl,hst]
theorem zfu (w:World) (t e ty:TypeId) (z:Value) (zs:List Value) (ht:P.underlying t=some (.slice e)) (hv:∀w,(zeroValue e).run P w= .ok z w) (hz:(Builtin.zeroCells z.cells 1).toList=zs) (h1:∀v∈zs,v.oneCell'=true) (b o c:Nat)
 (hc:∀j,j<zs.length->(w.cell? ⟨b,o+j,none⟩).isSome=true/\w.frozen? ⟨b,o+j,none⟩=false):
 (Builtin.clear_ #[t] ty #[.slice (some ⟨b,o,none⟩) 1 c]).run P w= .ok (.tuple #[]) (w.setCells b o zs):=by
 have hst:=run_storeCells_cells (P:=P) b o zs 0 w (by simpa using fun j hj=>(hc j hj).1) (by simpa using fun j hj=>(hc j hj).2) h1;simp only [Nat.add_zero] at hst
 simp [Builtin.clear_,run_underlying ht,hv,hz,hst]
end
namespace Dsk
open Go.RowKit Go.ChangeShapes Go.WideShapes Go.Deep Go.Joins
def zaj (f:Dp.Fl):List Value:=[.string f.n,.string f.d,.int .i64 f.s]
def FlB (f:Dp.Fl):Prop:=f.n.size<=9223372036854775807/\f.d.size<=9223372036854775807/\ -9223372036854775808<=f.s/\f.s<=9223372036854775807
def zero:Dp.Fl:=⟨⟨#[]⟩,⟨#[]⟩,0⟩
@[simp] theorem flCells_len (f:Dp.Fl):(zaj f).length=3:=rfl
def FL:Lay Dp.Fl where
 enc:=zaj
 k:=3
 len:=flCells_len
 one:=by intro f u hu;simp [zaj] at hu;rcases hu with rfl | rfl | rfl<;>rfl
 pos:=by decide
 T:=82
 ok:=FlB
 z:=zero
theorem zdd:(Tryz.prog.info? 82).map (fun i=>(i.zero,i.size,i.bytes))=some (some (.agg #[.string ByteArray.empty,.string ByteArray.empty,.int .i64 0]),3,40):=by kernel_rfl
theorem _root_.Go.Proofs.YtgmppfpllogdcaaGreat.Lay.vals_snoc {α:Type} (Y:Lay α) (l:List α) (x:α):Y.vals (l++[x])=Y.vals l++Y.enc x:=by rw [Y.vals_append,Y.vals_one]
theorem vals_snoc (l:List Dp.Fl) (f:Dp.Fl):FL.vals (l++[f])=FL.vals l++zaj f:=FL.vals_snoc l f
theorem at3 {w:World} {b off n cap:Nat} {l:List Dp.Fl} (h:IsL FL w (.slice (some ⟨b,off,none⟩) n cap) l) {i:Nat} (hi:i<n):
 w.cell? ⟨b,off+i*3,none⟩=some (.string (l.getD i zero).n)/\w.cell? ⟨b,off+i*3+1,none⟩=some (.string (l.getD i zero).d)/\w.cell? ⟨b,off+i*3+2,none⟩=some (.int .i64 (l.getD i zero).s):=
 ⟨h.at_ hi 0 _ rfl,h.at_ hi 1 _ rfl,h.at_ hi 2 _ rfl⟩
theorem _root_.Go.Proofs.YtgmppfpllogdcaaGreat.OwnL.open_ {α:Type} {Y:Lay α} {w:World} {base:Nat} {v:Value} {l:List α} (h:OwnL Y w base v l) (hl:0<l.length):
 ∃g cap cur,v= .slice (some ⟨g,0,none⟩) l.length cap/\base<=g/\w.heap[g]?=some (.cells cur Y.T (0,0))/\l.length<=cap/\cap<=maxLen/\cur.size=cap*Y.k/\cur.toList.take (l.length*Y.k)=Y.vals l:=by
 rcases h.2 with ⟨_,h0⟩ | h1
 · omega
 · exact h1
theorem _root_.Go.Proofs.YtgmppfpllogdcaaGreat.OwnL.mk {α:Type} {Y:Lay α} {w:World} {base g cap:Nat} {cur:Array Value} {l:List α} (hb:base<=g) (hg:w.heap[g]?=some (.cells cur Y.T (0,0))) (hc:l.length<=cap) (hm:cap<=maxLen) (hs:cur.size=cap*Y.k) (ht:cur.toList.take (l.length*Y.k)=Y.vals l):
 OwnL Y w base (.slice (some ⟨g,0,none⟩) l.length cap) l:=⟨Y.vals_len l,.inr ⟨g,cap,cur,rfl,hb,hg,hc,hm,hs,ht⟩⟩
theorem zcA {w:World} {base:Nat} {v:Value} {l:List Dp.Fl} (h:OwnL FL w base v l) (hl:0<l.length):
 ∃g cap cur,v= .slice (some ⟨g,0,none⟩) l.length cap/\base<=g/\w.heap[g]?=some (.cells cur 82 (0,0))/\l.length<=cap/\cap<=maxLen/\cur.size=cap*3/\cur.toList.take (l.length*3)=FL.vals l:=h.open_ hl
theorem zgC {w:World} {base g cap:Nat} {cur:Array Value} {l:List Dp.Fl} (hb:base<=g) (hg:w.heap[g]?=some (.cells cur 82 (0,0))) (hc:l.length<=cap) (hm:cap<=maxLen) (hs:cur.size=cap*3) (ht:cur.toList.take (l.length*3)=FL.vals l):
 OwnL FL w base (.slice (some ⟨g,0,none⟩) l.length cap) l:=OwnL.mk hb hg hc hm hs ht
theorem vals_len (l:List Dp.Fl):(FL.vals l).length=l.length*3:=FL.vals_len l
theorem vals_take (l:List Dp.Fl) (i:Nat):(FL.vals l).take (i*3)=FL.vals (l.take i):=FL.vals_take l i
theorem vals_drop (l:List Dp.Fl) (i:Nat):(FL.vals l).drop (i*3)=FL.vals (l.drop i):=FL.vals_drop l i
theorem zlG (cap:Nat) (w:World):
 Calls Tryz.prog 136 #[.slice none 0 cap] w (OutL FL w w.heap.size []):=by
 have q22:∀(w:World) (a:Option Addr) (n c n' c':Nat),(binOp .eql 25 (.slice a n c) (.slice none n' c')).run Tryz.prog w= .ok (.bool a.isNone) w:=fun w a n c n' c'=>Lib.run_eql_slice_nil w _ _ a n c n' c' Tryz.underlying25;have HF:=zid (OutL.mk (OwnL.nil (Y:=FL) w w.heap.size) (Below.refl _ w))
 go_enter Tryz.func136,Tryz.ntmps136
 go_wp2_with fail;go_ret;exact HF.out
theorem zff (x:Addr) (cap:Nat) (l:List Dp.Fl) (w:World) (hl:l.length<=1000000000000) (hc:∀j u,(FL.vals l)[j]?=some u->w.cell? (x.add j)=some u):
 Calls Tryz.prog 136 #[.slice (some x) l.length cap] w (OutL FL w w.heap.size l):=by
 obtain ⟨i0,hi0,hz0,hz1,hz2⟩:=info_parts zdd;have q22:∀(w:World) (a:Option Addr) (n c n' c':Nat),(binOp .eql 25 (.slice a n c) (.slice none n' c')).run Tryz.prog w= .ok (.bool a.isNone) w:=fun w a n c n' c'=>Lib.run_eql_slice_nil w _ _ a n c n' c' Tryz.underlying25;have HC:Hid (∀j u,(FL.vals l)[j]?=some u->(w.alloc (.cells #[] 82)).cell? (x.add j)=some u):=fun j u hj=>Lib.cell?_alloc_some _ (hc j u hj);have H1:=zid (FL.vals_cells l);have HL:=zid (vals_len l)
 have HF:Hid (∀v' w3,w3.ownsRow w.heap.size 82 3 v' (0+l.length) ([]++FL.vals l)->(w.alloc (.cells #[] 82)).grownBy w3 (some w.heap.size)->OutL FL w w.heap.size l (.returned v') w3):=by
  intro v' w3 h hg;rw [Nat.zero_add,List.nil_append] at h
  exact OutL.mk h (((Below.refl _ w).alloc (Nat.le_refl _) _).grown hg (by simp) (fun k hk=>by injection hk with hk;omega))
 have hown:=zid (World.ownsRow_made (e:=82) (size:=3) w #[] 0 (Nat.le_refl _) (Nat.zero_le _) (by simp));clear hc;generalize FL.vals l=xs at*;generalize l.length=len at*
 go_enter Tryz.func136,Tryz.ntmps136
 go_wp2_with (at_builtin;refine wpList_append_own _ rfl _ _ 25 rfl w.heap.size 82 i0 (.agg #[.string ByteArray.empty,.string ByteArray.empty,.int .i64 0]) 3 40 Tryz.underlying25 hi0 hz0 hz1 hz2 rfl (by decide) _ _ _ rfl hown.out x len cap xs rfl HL.out HC.out H1.out (by unfold maxLen;omega) (by omega) (by simp) ?_;intro v' w3 hown' hgrow3 hnil3)
 go_ret;exact HF.out v' w3 hown' hgrow3
theorem zlH (v:Value) (l:List Dp.Fl) (w:World) (h:IsL FL w v l) (hl:l.length<=1000000000000):
 Calls Tryz.prog 136 #[v] w (OutL FL w w.heap.size l):=by
 obtain ⟨a,cap,rfl,_,_,h3⟩:=h
 rcases h3 with rfl | ⟨b,off,rfl,h4⟩
 · cases a with
   | none=>exact zlG cap w
   | some x=>exact zff x cap [] w (by simp) (by simp [Lay.vals])
 · exact zff ⟨b,off,none⟩ cap l w hl (fun j u hj=>by rw [zak];exact h4 j u hj)
end Dsk
namespace Dp
def cmp (a b:ByteArray):Int:=Go.Lib.compareBytes a.data.toList b.data.toList
theorem cmpL3:∀(a b:List UInt8),(Go.Lib.compareBytes a b= -1/\a<b)\/(Go.Lib.compareBytes a b=0/\a=b)\/(Go.Lib.compareBytes a b=1/\b<a)
 | [],[]=> .inr (.inl ⟨rfl,rfl⟩)
 | [],_::_=> .inl ⟨rfl,List.nil_lt_cons ..⟩
 | _::_,[]=> .inr (.inr ⟨rfl,List.nil_lt_cons ..⟩)
 | a::xs,b::ys=>by
  unfold Go.Lib.compareBytes
  by_cases h1:a<b
  · exact .inl ⟨by rw [if_pos h1],List.cons_lt_cons_iff.2 (.inl h1)⟩
  · by_cases h2:b<a
    · exact .inr (.inr ⟨by rw [if_neg h1,if_pos h2],List.cons_lt_cons_iff.2 (.inl h2)⟩)
    · have e:a=b:=UInt8.le_antisymm (UInt8.not_lt.1 h2) (UInt8.not_lt.1 h1)
      rw [if_neg h1,if_neg h2]
      rcases cmpL3 xs ys with ⟨h,k⟩ | ⟨h,k⟩ | ⟨h,k⟩
      · exact .inl ⟨h,List.cons_lt_cons_iff.2 (.inr ⟨e,k⟩)⟩
      · exact .inr (.inl ⟨h,by rw [e,k]⟩)
      · exact .inr (.inr ⟨h,List.cons_lt_cons_iff.2 (.inr ⟨e.symm,k⟩)⟩)
theorem cmp3 (a b:ByteArray):(cmp a b= -1/\Lt a b)\/(cmp a b=0/\a=b)\/(cmp a b=1/\Lt b a):=by
 rcases cmpL3 a.data.toList b.data.toList with h | h | h
 · exact .inl h
 · exact .inr (.inl ⟨h.1,zez.2 h.2⟩)
 · exact .inr (.inr h)
structure FoundF (l:List Fl) (c:ByteArray) (i:Nat) (b:Bool):Prop where
 le:i<=l.length
 lt:∀j (hj:j<l.length),j<i->Lt (l[j]).n c
 ge:∀j (hj:j<l.length),i<=j->¬Lt (l[j]).n c
 hit:b=true->∃h:i<l.length,(l[i]).n=c
 miss:b=false->∀h:i<l.length,(l[i]).n≠c
theorem Up.at {l:List Fl} (h:Up l) {i j:Nat} (hj:j<l.length) (hi:i<j):Lt (l[i]).n (l[j]).n:=List.pairwise_iff_getElem.1 h i j (by omega) hj hi
structure Between (l:List Fl) (c:ByteArray) (lo hi:Nat):Prop where
 le:lo<=hi
 ln:hi<=l.length
 lt:∀j (hj:j<l.length),j<lo->Lt (l[j]).n c
 ge:∀j (hj:j<l.length),hi<=j->¬Lt (l[j]).n c
theorem Between.start (l:List Fl) (c:ByteArray):Between l c 0 l.length:=⟨Nat.zero_le _,Nat.le_refl _,fun _ _ h=>absurd h (Nat.not_lt_zero _),fun j hj h=>by omega⟩
theorem zaD {l:List Fl} {k:Nat} {z:Fl} (h:k<l.length):l.getD k z=l[k]:=by simp [List.getD_eq_getElem?_getD,h]
theorem Between.up {l:List Fl} {c:ByteArray} {lo hi m:Nat} {z:Fl} (h:Between l c lo hi) (hu:Up l) (h2:m<hi) (hm:Lt (l.getD m z).n c):Between l c (m+1) hi:=by
 refine ⟨h2,h.ln,fun j hj hjm=>?_,h.ge⟩;have h3:=h.ln;rw [zaD (by omega)] at hm
 rcases Nat.lt_or_ge j m with h4 | h4
 · exact (hu.at (show m<l.length by omega) h4).trans hm
 · obtain rfl:j=m:=by omega
   exact hm
theorem Between.down {l:List Fl} {c:ByteArray} {lo hi m:Nat} {z:Fl} (h:Between l c lo hi) (hu:Up l) (h1:lo<=m) (h2:m<hi) (hm:¬Lt (l.getD m z).n c):Between l c lo m:=by
 have h3:=h.ln;refine ⟨h1,by omega,h.lt,fun j hj hjm=>?_⟩;rw [zaD (by omega)] at hm
 rcases Nat.lt_or_ge m j with h4 | h4
 · exact fun k=>hm ((hu.at hj h4).trans k)
 · obtain rfl:j=m:=by omega
   exact hm
theorem Between.hit {l:List Fl} {c:ByteArray} {i:Nat} {z:Fl} (h:Between l c i i) (hi:i<l.length) (hm:(l.getD i z).n=c):FoundF l c i true:=by
 rw [zaD hi] at hm;exact ⟨h.ln,h.lt,h.ge,fun _=>⟨hi,hm⟩,fun h0=>by cases h0⟩
theorem Between.miss {l:List Fl} {c:ByteArray} {i:Nat} {z:Fl} (h:Between l c i i) (hm:i<l.length->(l.getD i z).n≠c):FoundF l c i false:=by
 refine ⟨h.ln,h.lt,h.ge,fun h0=>(by cases h0),fun _ hi he=>hm hi ?_⟩;rw [zaD hi,he]
theorem FoundF.parts {l:List Fl} {c:ByteArray} {i:Nat} {b:Bool} (h:FoundF l c i b) (hu:Up l):
 (∀f∈l.take i,Lt f.n c)/\(∀f∈l.drop i,¬Lt f.n c)/\(∀f∈l.drop (i+1),Lt c f.n)/\(b=false->∀f∈l.drop i,Lt c f.n):=by
 refine ⟨fun f hf=>?_,fun f hf=>?_,fun f hf=>?_,fun hb f hf=>?_⟩
 · obtain ⟨j,hj,rfl⟩:=List.mem_take_iff_getElem.1 hf
   exact h.lt j (by omega) (by omega)
 · obtain ⟨j,hj,rfl⟩:=List.mem_drop_iff_getElem.1 hf
   exact h.ge _ (by omega) (by omega)
 · obtain ⟨j,hj,rfl⟩:=List.mem_drop_iff_getElem.1 hf
   have hg:=h.ge i (by omega) (Nat.le_refl _)
   have ha:=hu.at (i:=i) (j:=i+1+j) (by omega) (by omega)
   rcases zgH (l[i]'(by omega)).n c with k | k | k
   · exact absurd k hg
   · rw [<-k];exact ha
   · exact k.trans ha
 · obtain ⟨j,hj,rfl⟩:=List.mem_drop_iff_getElem.1 hf
   have hg:=h.ge i (by omega) (Nat.le_refl _)
   have hi:Lt c (l[i]'(by omega)).n:=by
    rcases zgH (l[i]'(by omega)).n c with k | k | k
    · exact absurd k hg
    · exact absurd k (h.miss hb _)
    · exact k
   by_cases h0:j=0
   · subst h0;exact hi
   · exact hi.trans (hu.at (i:=i) (j:=i+j) (by omega) (by omega))
theorem zbQ {l:List Fl} {p:Fl->Bool} (h:∀f∈l,p f=true):l.filter p=l:=List.filter_eq_self.2 h
theorem zbW {l:List Fl} {p:Fl->Bool} (h:∀f∈l,p f=false):l.filter p=[]:=List.filter_eq_nil_iff.2 (fun f hf=>by rw [h f hf];decide)
theorem FoundF.get {l:List Fl} {c:ByteArray} {i:Nat} {b:Bool} (h:FoundF l c i b) (hu:Up l) (z:Fl):get l c=if b then some (l.getD i z) else none:=by
 rcases b with _ | _
 · refine get_none.2 fun f hf he=>?_
   rw [<-List.take_append_drop i l] at hf
   rcases List.mem_append.1 hf with k | k
   · exact ((h.parts hu).1 f k).ne he
   · exact ((h.parts hu).2.2.2 rfl f k).ne he.symm
 · obtain ⟨hi,he⟩:=h.hit rfl
   rw [zaD hi]
   have:=zdv hu (List.getElem_mem hi);rw [he] at this
   simpa using this
theorem zil {l:List Fl} {i:Nat} (h:i<l.length) (z:Fl):l=l.take i++[l.getD i z]++l.drop (i+1):=by
 rw [zaD h,List.append_assoc,List.singleton_append, <-List.drop_eq_getElem_cons h,List.take_append_drop]
theorem FoundF.with_hit {l:List Fl} {c:ByteArray} {i:Nat} (h:FoundF l c i true) (hu:Up l) {f:Fl} (hf:f.n=c):withF l f=l.take i++[f]++l.drop (i+1):=by
 obtain ⟨hi,he⟩:=h.hit rfl;obtain ⟨p1,_,p3,_⟩:=h.parts hu;have e:=zil hi (l[i]);unfold withF;rw [hf,e,List.filter_append,List.filter_append,List.filter_append,List.filter_append, <-e]
 have hm:(l.getD i l[i]).n=c:=by rw [zaD hi,he]
 rw [zbQ (l:=l.take i) (p:=fun g=>decide (Lt g.n c)) (fun g hg=>decide_eq_true (p1 g hg)),zbW (l:=[l.getD i l[i]]) (fun g hg=>by rw [List.mem_singleton.1 hg,hm];exact decide_eq_false (Lt.irrefl c)),
  zbW (l:=l.drop (i+1)) (fun g hg=>decide_eq_false (p3 g hg).asymm),zbW (l:=l.take i) (fun g hg=>decide_eq_false (p1 g hg).asymm),zbW (l:=[l.getD i l[i]]) (p:=fun g=>decide (Lt c g.n)) (fun g hg=>by rw [List.mem_singleton.1 hg,hm];exact decide_eq_false (Lt.irrefl c)),zbQ (l:=l.drop (i+1)) (fun g hg=>decide_eq_true (p3 g hg))]
 simp
theorem FoundF.with_miss {l:List Fl} {c:ByteArray} {i:Nat} (h:FoundF l c i false) (hu:Up l) {f:Fl} (hf:f.n=c):withF l f=l.take i++[f]++l.drop i:=by
 obtain ⟨p1,_,_,p4⟩:=h.parts hu;have p4:=p4 rfl;have e:=(List.take_append_drop i l).symm;unfold withF;rw [hf,e,List.filter_append,List.filter_append, <-e]
 rw [zbQ (l:=l.take i) (p:=fun g=>decide (Lt g.n c)) (fun g hg=>decide_eq_true (p1 g hg)),zbW (l:=l.drop i) (fun g hg=>decide_eq_false (p4 g hg).asymm),
  zbW (l:=l.take i) (fun g hg=>decide_eq_false (p1 g hg).asymm),zbQ (l:=l.drop i) (fun g hg=>decide_eq_true (p4 g hg))]
 simp
theorem FoundF.wo {l:List Fl} {c:ByteArray} {i:Nat} (h:FoundF l c i true) (hu:Up l):without l c=l.take i++l.drop (i+1):=by
 obtain ⟨hi,he⟩:=h.hit rfl;obtain ⟨p1,_,p3,_⟩:=h.parts hu;have e:=zil hi (l[i])
 have hm:(l.getD i l[i]).n=c:=by rw [zaD hi,he]
 unfold without;rw [e,List.filter_append,List.filter_append, <-e,zbQ (l:=l.take i) (fun g hg=>decide_eq_true (p1 g hg).ne),zbW (l:=[l.getD i l[i]]) (fun g hg=>by rw [List.mem_singleton.1 hg];exact decide_eq_false (fun k=>k hm)),zbQ (l:=l.drop (i+1)) (p:=fun f=>decide (f.n≠c)) (fun g hg=>decide_eq_true (fun k=>(p3 g hg).ne k.symm))]
 simp
end Dp
namespace Dsk
open Go.RowKit Dp
theorem zjP (a b:ByteArray) (w:World):Calls Tryz.prog 161 #[.string a,.string b] w fun e w'=>e= .returned (.int .i64 (cmp a b))/\w=w':=by
 go_enter Tryz.func161,Tryz.ntmps161
 go_wp2
 rw [run_callFunc_extern Tryz.func163 (by kernel_rfl) (by kernel_rfl) (by kernel_rfl) (e:=Extern.BytealgCompare.compare) (by kernel_rfl),Lib.run_compareString];simp only [Result.andThen];rw [Oper.upon_value]
 go_wp2
 go_ret;exact ⟨rfl,rfl⟩
theorem zgf (a b:ByteArray) (w:World):Calls Tryz.prog 154 #[.string a,.string b] w fun e w'=>e= .returned (.int .i64 (cmp a b))/\w=w':=by
 have C:=zid (zjP a b)
 go_enter Tryz.func154,Tryz.ntmps154
 go_wp2_with fail;refine (C.out _).mono ?_;rintro e w' ⟨rfl,rfl⟩;go_wp2_with fail;go_ret;exact ⟨rfl,rfl⟩
theorem zfg (n d:ByteArray) (s:Int) (c:ByteArray) (w:World):Calls Tryz.prog 138 #[.agg #[.string n,.string d,.int .i64 s],.string c] w fun e w'=>e= .returned (.int .i64 (cmp n c))/\Below w.heap.size w w':=by
 have C:=zid fun (W:World)=>zgf n c W
 go_enter Tryz.func138,Tryz.ntmps138
 go_wp2_with fail;refine (C.out _).mono ?_;rintro e w' ⟨rfl,rfl⟩;go_wp2_with fail;go_ret;exact ⟨rfl,(Below.refl _ _).alloc (Nat.le_refl _) _⟩
def zbh (w:World) (l:List Fl) (c:ByteArray) (e:Ending) (w':World):Prop:=
 ∃(i:Nat) (b:Bool),e= .returned (.tuple #[.int .i64 (i:Int),.bool b])/\FoundF l c i b/\Below w.heap.size w w'
theorem zbh.mk {w w':World} {l:List Fl} {c:ByteArray} {i:Nat} {b:Bool} (h:FoundF l c i b) (hb:Below w.heap.size w w'):zbh w l c (.returned (.tuple #[.int .i64 (i:Int),.bool b])) w':=⟨i,b,rfl,h,hb⟩
theorem zhr (l:List Fl) (c:ByteArray) (b off cap:Nat) (w:World) (hu:Up l) (hl:l.length<=1000000000000) (h:IsL FL w (.slice (some ⟨b,off,none⟩) l.length cap) l):
 Calls Tryz.prog 137 #[.slice (some ⟨b,off,none⟩) l.length cap,.string c,.func (.func 138) #[] #[]] w (zbh w l c):=by
 have HC:=zid fun i (hi:i<l.length)=>at3 h hi;have HU:=zid hu;have HS:=zid (Between.start l c);clear h hu;obtain ⟨len,hlen⟩:∃len,l.length=len:=⟨_,rfl⟩;rw [hlen] at hl HC HS ⊢;have HL:=zid hlen;clear hlen
 go_enter Tryz.func137,Tryz.ntmps137
 go_wp2_with fail
 go_loopw [9,10] (fun x y wr=>∃lo hi:Nat,hi<=len/\x= .int .i64 lo/\y= .int .i64 hi/\Between l c lo hi/\Below w.heap.size w wr) (fun x y _=>(intOf y).toNat-(intOf x).toNat)
 case atStart=>exact ⟨0,len,Nat.le_refl _,rfl,rfl,HS.out,Below.refl _ _⟩
 case round=>
  obtain ⟨lo,hi,hhi,rfl,rfl,hB,bel⟩:=hrel;have HB:=zid hB;have hle:=hB.le;clear hB
  by_cases hlt:lo<hi
  · obtain ⟨m,hm⟩:∃m,(lo+hi)/2=m:=⟨_,rfl⟩
    have hm1:lo<=m:=by omega
    have hm2:m<hi:=by omega
    have hmi:((lo:Int)+(hi:Int))/2=(m:Int):=by omega
    obtain ⟨c0,c1,c2⟩:=HC.out m (by omega);have hbb:=block_lt_of_cell c0
    have z0:wr.cell? ⟨b,off+m*3,none⟩=some (.string (l.getD m zero).n):=by rw [bel.cell (p:=⟨b,off+m*3,none⟩) hbb];exact c0
    have z1:wr.cell? ⟨b,off+m*3+1,none⟩=some (.string (l.getD m zero).d):=by rw [bel.cell (p:=⟨b,off+m*3+1,none⟩) hbb];exact c1
    have z2:wr.cell? ⟨b,off+m*3+2,none⟩=some (.int .i64 (l.getD m zero).s):=by rw [bel.cell (p:=⟨b,off+m*3+2,none⟩) hbb];exact c2
    clear c0 c1 c2 hm;have BUP:=zid fun h=>HB.out.up (z:=zero) HU.out hm2 h;have BDN:=zid fun h=>HB.out.down (z:=zero) HU.out hm1 hm2 h;generalize l.getD m zero=p at*;have C:=fun W:World=>zfg p.n p.d p.s c W
    rcases cmp3 p.n c with ⟨hq,hcm⟩ | ⟨hq,hcm⟩ | ⟨hq,hcm⟩
    · rw [hq] at C
      have C:=zid C
      have HN:=zid (BUP.out hcm);clear hcm hq;go_wp2_with fail;refine (C.out _).mono ?_;rintro e w1 ⟨rfl,b1⟩;go_wp2_with fail
      go_roundw
      case rel=>exact ⟨m+1,hi,hhi,by go_num,rfl,HN.out,bel.trans (b1.mono bel.size)⟩
      case measure=>simp [intOf];omega
    · rw [hq] at C
      have C:=zid C
      have HN:=zid (BDN.out (fun k=>k.ne hcm));clear hcm hq;go_wp2_with fail;refine (C.out _).mono ?_;rintro e w1 ⟨rfl,b1⟩;go_wp2_with fail
      go_roundw
      case rel=>exact ⟨lo,m,by omega,rfl,rfl,HN.out,bel.trans (b1.mono bel.size)⟩
      case measure=>simp [intOf];omega
    · rw [hq] at C
      have C:=zid C
      have HN:=zid (BDN.out hcm.asymm);clear hcm hq;go_wp2_with fail;refine (C.out _).mono ?_;rintro e w1 ⟨rfl,b1⟩;go_wp2_with fail
      go_roundw
      case rel=>exact ⟨lo,m,by omega,rfl,rfl,HN.out,bel.trans (b1.mono bel.size)⟩
      case measure=>simp [intOf];omega
  · obtain rfl:hi=lo:=by omega
    by_cases hn:hi<len
    · obtain ⟨c0,c1,c2⟩:=HC.out hi hn
      have hbb:=block_lt_of_cell c0
      have z0:wr.cell? ⟨b,off+hi*3,none⟩=some (.string (l.getD hi zero).n):=by rw [bel.cell (p:=⟨b,off+hi*3,none⟩) hbb];exact c0
      have z1:wr.cell? ⟨b,off+hi*3+1,none⟩=some (.string (l.getD hi zero).d):=by rw [bel.cell (p:=⟨b,off+hi*3+1,none⟩) hbb];exact c1
      have z2:wr.cell? ⟨b,off+hi*3+2,none⟩=some (.int .i64 (l.getD hi zero).s):=by rw [bel.cell (p:=⟨b,off+hi*3+2,none⟩) hbb];exact c2
      clear c0 c1 c2;have BH:=zid fun h=>HB.out.hit (z:=zero) (by rw [HL.out];exact hn) h;have BM:=zid fun h=>HB.out.miss (z:=zero) h;generalize l.getD hi zero=p at*;have C:=fun W:World=>zfg p.n p.d p.s c W
      obtain ⟨q,hq,HN⟩:∃q,cmp p.n c=q/\Hid (FoundF l c hi (q==0)):=by
       rcases cmp3 p.n c with ⟨hq,hcm⟩ | ⟨hq,hcm⟩ | ⟨hq,hcm⟩
       · exact ⟨_,hq,BM.out fun _=>hcm.ne⟩
       · exact ⟨_,hq,BH.out hcm⟩
       · exact ⟨_,hq,BM.out fun _ k=>hcm.ne k.symm⟩
      rw [hq] at C;have C:=zid C;clear hq;go_wp2_with fail;refine (C.out _).mono ?_;rintro e w1 ⟨rfl,b1⟩;go_wp2_with fail;go_ret2;exact zbh.mk HN.out (bel.trans (b1.mono bel.size))
    · have HN:=zid (HB.out.miss (z:=zero) fun h=>absurd h (by rw [HL.out];exact hn))
      go_wp2_with fail
      go_ret2;exact zbh.mk HN.out bel
theorem zhs (a:Option Addr) (cap:Nat) (c:ByteArray) (w:World):
 Calls Tryz.prog 137 #[.slice a 0 cap,.string c,.func (.func 138) #[] #[]] w (zbh w [] c):=by
 have HN:=zid ((Between.start [] c).miss (z:=zero) fun h=>absurd h (by simp))
 go_enter Tryz.func137,Tryz.ntmps137
 go_wp2_with fail;refine wp_loop_rounds 1 ?_;rw [rounds_succ];go_wp2_with fail;go_ret2;exact zbh.mk HN.out (Below.refl _ _)
theorem zjd (v:Value) (l:List Fl) (c:ByteArray) (w:World) (hu:Up l) (hl:l.length<=1000000000000) (h:IsL FL w v l):
 Calls Tryz.prog 137 #[v,.string c,.func (.func 138) #[] #[]] w (zbh w l c):=by
 have h':=h;obtain ⟨a,cap,rfl,_,_,h3⟩:=h
 rcases h3 with rfl | ⟨b,off,rfl,h4⟩
 · exact zhs a cap c w
 · exact zhr l c b off cap w hu hl h'
theorem zbN (v:Value) (l:List Fl) (c:ByteArray) (w:World) (hu:Up l) (hl:l.length<=1000000000000) (h:IsL FL w v l):
 Calls Tryz.prog 118 #[v,.string c] w (zbh w l c):=by
 have C:=zid (zjd v l c w hu hl h);obtain ⟨a,cap,rfl,_⟩:=h;clear hu hl
 go_enter Tryz.func118,Tryz.ntmps118
 go_wp2_with fail;refine C.out.mono ?_;rintro e w' ⟨i,b,rfl,hf,hb⟩;have HF:=zid (zbh.mk (w:=w) (l:=l) (c:=c) hf hb);clear hf hb;go_wp2_with fail;go_ret2;exact HF.out
theorem zdc (n:ByteArray) (w:World) (hn:n.size<=9223372036854775807):
 Calls Tryz.prog 117 #[.string n] w fun e w'=>e= .returned (.bool (decide (Named n)))/\w=w':=by
 by_cases h1:1<=n.size
 · have i1:(1:Int)<=(n.size:Int):=by omega
   by_cases h2:n.size<=32
   · have i2:(n.size:Int)<=32:=by omega
     rw [decide_eq_true (show Named n from ⟨h1,h2⟩)]
     go_enter Tryz.func117,Tryz.ntmps117
     go_wp2_with fail;go_ret;exact ⟨by simp_all,rfl⟩
   · have i2:¬((n.size:Int)<=32):=by omega
     rw [decide_eq_false (show ¬Named n from fun h=>h2 h.2)]
     go_enter Tryz.func117,Tryz.ntmps117
     go_wp2_with fail;go_ret;exact ⟨by simp_all,rfl⟩
 · have i1:¬((1:Int)<=(n.size:Int)):=by omega
   rw [decide_eq_false (show ¬Named n from fun h=>h1 h.1)]
   go_enter Tryz.func117,Tryz.ntmps117
   go_wp2_with fail;go_ret;exact ⟨by simp_all,rfl⟩
theorem zgE (n:ByteArray) (w:World) (hn:n.size<=9223372036854775807):
 Calls Tryz.prog 87 #[.string n] w fun e w'=>e= .returned (.bool (decide (Named n)))/\w=w':=by
 by_cases h1:1<=n.size
 · have i1:(1:Int)<=(n.size:Int):=by omega
   by_cases h2:n.size<=32
   · have i2:(n.size:Int)<=32:=by omega
     rw [decide_eq_true (show Named n from ⟨h1,h2⟩)]
     go_enter Tryz.func87,Tryz.ntmps87
     go_wp2_with fail;go_ret;exact ⟨by simp_all,rfl⟩
   · have i2:¬((n.size:Int)<=32):=by omega
     rw [decide_eq_false (show ¬Named n from fun h=>h2 h.2)]
     go_enter Tryz.func87,Tryz.ntmps87
     go_wp2_with fail;go_ret;exact ⟨by simp_all,rfl⟩
 · have i1:¬((1:Int)<=(n.size:Int)):=by omega
   rw [decide_eq_false (show ¬Named n from fun h=>h1 h.1)]
   go_enter Tryz.func87,Tryz.ntmps87
   go_wp2_with fail;go_ret;exact ⟨by simp_all,rfl⟩
end Dsk
namespace Dsk
open Go.RowKit Go.Lib
def noughts:List Value:=[.string ⟨#[]⟩,.string ⟨#[]⟩,.int .i64 0]
theorem zero_fl:∀w,(zeroValue 82).run Tryz.prog w= .ok (.agg #[.string ⟨#[]⟩,.string ⟨#[]⟩,.int .i64 0]) w:=fun w=>by kernel_rfl
theorem zlA (n cap i j g:Nat) (cur:Array Value) (xs:List Value) (w:World) (hij:j=i+1) (hj:j<=n) (hnc:n<=cap)
 (hg:w.heap[g]?=some (.cells cur 82 (0,0))) (hs:cur.size=cap*3) (ht:cur.toList.take (n*3)=xs) (h1:∀u∈xs,u.oneCell'=true):
 Calls Tryz.prog 121 #[.slice (some ⟨g,0,none⟩) n cap,.int .i64 (i:Int),.int .i64 (j:Int)] w fun e w'=>
  e= .returned (.slice (some ⟨g,0,none⟩) (i+(n-j)) cap)/\w'=(w.drew.setCells g (i*3) (xs.drop (j*3))).setCells g ((i+(n-j))*3) noughts:=by
 have mixed:Tryz.prog.follows Departure.mixedOrders=true:=by kernel_rfl
 obtain ⟨i0,hi0,hz0,hz1,hz2⟩:=info_parts zdd
 have hxl:xs.length=n*3:=by rw [<-ht,List.length_take,Array.length_toList];omega
 obtain ⟨news,hnews⟩:∃news,news=xs.drop (j*3):=⟨_,rfl⟩
 have hnl:news.length=(n-j)*3:=by rw [hnews,List.length_drop,hxl];omega
 have hgd:w.drew.heap[g]?=some (.cells cur 82 (0,0)):=hg
 obtain ⟨A,hA,hsrc⟩:∃A:Addr,(if cap=j then some (⟨g,0,none⟩:Addr) else some ⟨g,j*3,none⟩)=some A/\Hid (∀t u,news[t]?=some u->w.drew.cell? (A.add t)=some u):=by
  by_cases h:cap=j
  · refine ⟨⟨g,0,none⟩,by simp [h],fun t u hu=>?_⟩
    have h0:news.length=0:=by rw [hnl];omega
    rw [List.length_eq_zero_iff.1 h0] at hu;simp at hu
  · refine ⟨⟨g,j*3,none⟩,by simp [h],fun t u hu=>?_⟩
    rw [zak]
    rw [hnews] at hu;exact zd0 hgd ht t u hu
 have s1:Hid (news.length=(n-j)*3):=hnl
 have s2:Hid (∀u∈news,u.oneCell'=true):=by
  intro u hu;rw [hnews] at hu;exact h1 u (List.mem_of_mem_drop hu)
 have s3:Hid (∀t,t<news.length->(w.drew.cell? ⟨g,0+i*3+t,none⟩).isSome=true/\w.drew.frozen? ⟨g,0+i*3+t,none⟩=false):=by
  intro t htl;rw [hnl] at htl;exact zaK hgd _ (by omega)
 obtain ⟨W1,hW1⟩:∃W1,W1=w.drew.setCells g (i*3) news:=⟨_,rfl⟩
 have hg1:W1.heap[g]?=some (.cells (splice cur (i*3) news) 82 (0,0)):=by rw [hW1];exact zaq hgd (by rw [hnl];omega)
 have hsz1:(splice cur (i*3) news).size=cap*3:=by rw [zav (by rw [hnl];omega)];exact hs
 have hcl:∀ty c,(Builtin.clear_ #[25] ty #[.slice (some ⟨g,(i+(n-j))*3,none⟩) (n-(i+(n-j))) c]).run Tryz.prog W1= .ok (.tuple #[]) (W1.setCells g ((i+(n-j))*3) noughts):=by
  intro ty c;rw [show n-(i+(n-j))=1 from by omega]
  refine zfu W1 _ _ ty _ noughts Tryz.underlying25 zero_fl (by kernel_rfl) (by intro v hv;simp [noughts] at hv;rcases hv with rfl | rfl | rfl<;>rfl) g _ c (fun t htl=>?_)
  have:noughts.length=3:=rfl;exact zaK hg1 _ (by omega)
 have hW:Hid (W1=w.drew.setCells g (0+i*3) news):=by rw [Nat.zero_add];exact hW1
 have HX:Hid (W1=w.drew.setCells g (i*3) (xs.drop (j*3))):=by rw [<-hnews];exact hW1
 have hic:i<=cap:=by omega
 have hjc:j<=cap:=by omega
 have hlt:i<j:=by omega
 have hne:¬((i:Int)=(j:Int)):=by omega
 clear hij hW1 hg1 hgd hnews hnl ht hs hxl hg h1
 go_enter Tryz.func121,Tryz.ntmps121
 go_wp2_with fail
 go_region_law_o (refine step_append_room rfl (.tmp 22) (.tmp 25) 25 rfl 82 i0 3 Tryz.underlying25 hi0 hz1 g 0 i cap (by simp [Act.eval,Act.put]) A (n-j) (cap-j) news (by simp [Act.eval,Act.put]) s1.out hsrc.out s2.out (by omega) s3.out ?_;rw [<-hW.out])
 go_wp2
 go_ret;exact ⟨rfl,by rw [HX.out]⟩
end Dsk
end Go.Proofs.YtgmppfpllogdcaaGreat

/-
  Parts of what the laws of this seat stand on:StoPlain,LogApp,Strs,DiskDo,DiskHeld,StoVars,LogVia,InsPlain,InsReg,InsNew,TrmWo,DiskSame,StoSame,RoHv,InsSt.
-/
import Derived.ChangeArms
import Derived.Deep.DeepCutAuto
import Derived.Deep.RegionHeld3
import Derived.Deep.Slices
import Derived.Deep.Strs
import Derived.Laws.StructEq
import Derived.Lib.Hide
import Derived.Test.YtgmppfpllogdcaaGreatBi1
import Derived.Test.YtgmppfpllogdcaaGreatBi12
import Derived.Test.YtgmppfpllogdcaaGreatBi13
import Derived.Test.YtgmppfpllogdcaaGreatBi14
import Derived.Test.YtgmppfpllogdcaaGreatBi15
import Derived.Test.YtgmppfpllogdcaaGreatBi17
import Derived.Test.YtgmppfpllogdcaaGreatBi18
import Derived.Test.YtgmppfpllogdcaaGreatBi2
import Derived.Test.YtgmppfpllogdcaaGreatBi20
import Derived.Test.YtgmppfpllogdcaaGreatBi22
import Derived.Test.YtgmppfpllogdcaaGreatBi24
import Derived.Test.YtgmppfpllogdcaaGreatBi25
import Derived.Test.YtgmppfpllogdcaaGreatBi29
import Derived.Test.YtgmppfpllogdcaaGreatBi3
import Derived.Test.YtgmppfpllogdcaaGreatBi30
import Derived.Test.YtgmppfpllogdcaaGreatBi33
import Derived.Test.YtgmppfpllogdcaaGreatBi35
import Derived.Test.YtgmppfpllogdcaaGreatBi36
import Derived.Test.YtgmppfpllogdcaaGreatBi39
import Derived.Test.YtgmppfpllogdcaaGreatBi40
import Derived.Test.YtgmppfpllogdcaaGreatBi41
import Derived.Test.YtgmppfpllogdcaaGreatBi44
import Derived.Test.YtgmppfpllogdcaaGreatBi46
import Derived.Test.YtgmppfpllogdcaaGreatBi5
import Derived.Test.YtgmppfpllogdcaaGreatBi8
import Derived.WalkKit
import Derived.WalkSpells
set_option maxRecDepth 100000
set_option maxHeartbeats 6400000
namespace Go.Proofs.YtgmppfpllogdcaaGreat
namespace So
open Dp
theorem zky:∀(b:Int) (rs:List Rp.Rec),Gp.Rise b rs->∀i (h:i<rs.length),rs[i].a=b+i
 | b,a::l,h,0,_=>by simpa using h.1
 | b,a::l,h,i+1,hi=>by
  have:=zky (b+1) l h.2 i (by simpa using hi);rw [List.getElem_cons_succ,this];omega
end So
namespace Lg
open Dp So
variable {q F:Int} {S:St} {s0:List Fp.Pr} {rs:List Rp.Rec}
theorem Log.read_low (h:Log q S F s0 rs) {o:Int} (h0:0<=o) (ho:o<F):zb6 S o=(Rp.zero,11):=by
 have hx:=h.x;unfold zb6;rw [if_neg (by omega),h.recs]
 rcases hh:rs.find? fun r=>decide (r.a=o) with _ | r
 · rw [hh]
 · have h1:=List.find?_some hh
   have h1:r.a=o:=by simpa using h1
   obtain ⟨i,hi,e⟩:=List.mem_iff_getElem.1 (List.mem_of_find?_eq_some hh);have h2:=zky F rs h.up i hi;rw [e] at h2;omega
end Lg
section
open Go.RowKit Go.Lib
theorem zbY.below {B:Nat} {w w':World} {v:Value} {ss:List ByteArray} (h:zbY w v ss) (hb:Below B w w') (hB:w.heap.size<=B):zbY w' v ss:=by
 obtain ⟨a,cap,rfl,h1,h2,h3⟩:=h;refine ⟨a,cap,rfl,h1,h2,?_⟩
 rcases h3 with h3 | ⟨b,off,rfl,h4⟩
 · exact .inl h3
 · refine .inr ⟨b,off,rfl,fun i hi=>?_⟩
   have h5:=h4 i hi
   rw [hb.cell (p:=⟨b,off+i,none⟩) (Nat.lt_of_lt_of_le (block_lt_of_cell h5) hB)];exact h5
theorem zbY.of_cells {w:World} {x:Addr} {len cap:Nat} {ss:List ByteArray} (hl:len<=cap) (hm:cap<=maxLen) (hz:ss.length=cap)
 (hcell:∀i,i<ss.length->w.cell? (x.add i)=some (.string (ss.getD i ByteArray.empty))) (hs:∀s∈ss,s.size<=maxLen):zbY w (.slice (some x) len cap) (ss.take len):=by
 have e:(ss.take len).length=len:=by rw [List.length_take];omega
 refine ⟨some x,cap,by rw [e],by omega,fun s h=>hs s (List.mem_of_mem_take h),?_⟩
 rcases Nat.eq_zero_or_pos len with h0 | h0
 · left;subst h0;simp
 · right
   obtain ⟨b,off,spot⟩:=x
   have hc:=hcell 0 (by omega)
   have hspot:spot=none:=by simpa [Addr.add] using World.cell?_spot hc
   subst hspot;refine ⟨b,off,rfl,fun i hi=>?_⟩;rw [e] at hi
   have e2:(ss.take len).getD i ByteArray.empty=ss.getD i ByteArray.empty:=by
    rw [List.getD_eq_getElem?_getD,List.getD_eq_getElem?_getD,List.getElem?_take_of_lt hi]
   rw [e2];have:=hcell i (by omega);unfold Addr.add at this
   by_cases h1:i=0
   · subst h1;exact this
   · rw [if_neg h1] at this;exact this
theorem zbY.nil (w:World) (a:Option Addr) (cap:Nat):zbY w (.slice a 0 cap) []:=⟨a,cap,rfl,by simp [maxLen],by simp,.inl rfl⟩
end
namespace Dsk
open Go.RowKit Dp
theorem Bd.sm {D:Dk} {k:Nat} (h:Bd D k) (hk:k<=1000):Sm D:=⟨h.b,h.r,by have:=h.n;omega,by have:=h.u;omega⟩
end Dsk
namespace Dp
end Dp
namespace Dsk
open Go.RowKit Dp
theorem Bd.empty:Bd empty 0:=⟨⟨⟨by decide,by decide⟩,by decide,by decide⟩,Right.empty,Nat.le_refl _,Nat.le_refl _⟩
end Dsk
namespace Sto
open Go.RowKit So Dsk Rts
theorem zg4 {base k:Nat} {w W:World} (h:Below base w W) (hk:base<=k) (x0 x1 x2 x3 x4 x5 x6 x7 x8 x9 x10:Value):Below base w (((((((((((W.setCell ⟨k,0,none⟩ x0).setCell ⟨k,1,none⟩ x1).setCell ⟨k,2,none⟩ x2).setCell ⟨k,3,none⟩ x3).setCell ⟨k,4,none⟩ x4).setCell ⟨k,5,none⟩ x5).setCell ⟨k,6,none⟩ x6).setCell ⟨k,7,none⟩ x7).setCell ⟨k,8,none⟩ x8).setCell ⟨k,9,none⟩ x9).setCell ⟨k,10,none⟩ x10):=by
 have q:∀{U:World} (i:Nat) (x:Value),Below base w U->Below base w (U.setCell ⟨k,i,none⟩ x):=fun i x h=>h.setCell (p:=⟨k,i,none⟩) hk x;exact q 10 x10 (q 9 x9 (q 8 x8 (q 7 x7 (q 6 x6 (q 5 x5 (q 4 x4 (q 3 x3 (q 2 x2 (q 1 x1 (q 0 x0 h))))))))))
section
variable {w0 W:World}
theorem KW.st11 (h:(∀b o,b<w0.heap.size->W.cell? ⟨b,o,none⟩=w0.cell? ⟨b,o,none⟩)/\Below w0.heap.size w0 W) {t:Nat} {x0 x1 x2 x3 x4 x5 x6 x7 x8 x9 x10:Value} (ht:w0.heap.size<=t):(∀b i,b<w0.heap.size->(((((((((((W.setCell ⟨t,0,none⟩ x0).setCell ⟨t,1,none⟩ x1).setCell ⟨t,2,none⟩ x2).setCell ⟨t,3,none⟩ x3).setCell ⟨t,4,none⟩ x4).setCell ⟨t,5,none⟩ x5).setCell ⟨t,6,none⟩ x6).setCell ⟨t,7,none⟩ x7).setCell ⟨t,8,none⟩ x8).setCell ⟨t,9,none⟩ x9).setCell ⟨t,10,none⟩ x10).cell? ⟨b,i,none⟩=w0.cell? ⟨b,i,none⟩)/\Below w0.heap.size w0 (((((((((((W.setCell ⟨t,0,none⟩ x0).setCell ⟨t,1,none⟩ x1).setCell ⟨t,2,none⟩ x2).setCell ⟨t,3,none⟩ x3).setCell ⟨t,4,none⟩ x4).setCell ⟨t,5,none⟩ x5).setCell ⟨t,6,none⟩ x6).setCell ⟨t,7,none⟩ x7).setCell ⟨t,8,none⟩ x8).setCell ⟨t,9,none⟩ x9).setCell ⟨t,10,none⟩ x10):=KW.of (zg4 h.2 ht _ _ _ _ _ _ _ _ _ _ _)
end
structure Bx (P:List Nat) (b:Nat) (fv gv:Value) (S:St) (W:World):Prop where
 d:W.heap[b]?=some (.cells #[fv,.int .i64 S.d.c,.bool S.d.a,.int .i64 S.d.l,.bool S.d.x,.int .i64 S.v,gv,.int .i64 S.x,.int .i64 S.s,.int .i64 S.z,.int .u32 S.c] 31 (0,0))
 f:IsL FL W fv S.d.f
 g:IsL Rts.SL W gv S.g
 s:∀p∈P,Sep fv p/\Sep gv p
def BxR (P:List Nat) (b:Nat) (S:St) (W:World):Prop:=∃a n c a' n' c',Bx P b (.slice a n c) (.slice a' n' c') S W
section
variable {w0 Wc W W' W5:World} {P:List Nat} {b t:Nat} {fv gv fv' gv':Value} {S T:St}
theorem Bx.lt (h:Bx P b fv gv S W):b<W.heap.size:=(Array.getElem?_eq_some_iff.1 h.d).1
theorem Bx.keep (h:Bx P b fv gv S W) (k:Below W.heap.size W W'):Bx P b fv gv S W':=⟨hkeep h.d k,h.f.keep k,h.g.keep k,h.s⟩
theorem BxR.A {a a':Option Addr} {n c n' c':Nat} (h:Bx P b fv gv S w0) (q:Below w0.heap.size w0 Wc) (k:StS Wc fv gv T (.slice a n c) (.slice a' n' c') W5) (hP:∀p∈P,p<w0.heap.size):BxR P W5.heap.size T (W5.alloc (.cells #[.slice a n c,.int .i64 T.d.c,.bool T.d.a,.int .i64 T.d.l,.bool T.d.x,.int .i64 T.v,.slice a' n' c',.int .i64 T.x,.int .i64 T.s,.int .i64 T.z,.int .u32 T.c] 31)):=by
 have al:=(Below.refl W5.heap.size W5).alloc (Nat.le_refl _) (.cells #[.slice a n c,.int .i64 T.d.c,.bool T.d.a,.int .i64 T.d.l,.bool T.d.x,.int .i64 T.v,.slice a' n' c',.int .i64 T.x,.int .i64 T.s,.int .i64 T.z,.int .u32 T.c] 31);exact ⟨a,n,c,a',n',c',heap_alloc_new W5 _,k.f.keep al,k.g.keep al,fun p hp=>k.s p (Nat.lt_of_lt_of_le (hP p hp) q.size) (h.s p hp).1 (h.s p hp).2⟩
theorem BxR.bA {a a':Option Addr} {n c n' c':Nat} (q:Below w0.heap.size w0 Wc) (k:StS Wc fv gv T (.slice a n c) (.slice a' n' c') W5) (o:Obj):Below w0.heap.size w0 (W5.alloc o):=by
 have h:=q.trans (k.w.mono q.size);exact h.alloc h.size _
theorem BxR.B {a a':Option Addr} {n c n' c':Nat} {x0 x1 x2 x3 x4 x5 x6 x7 x8 x9 x10:Value} (h:Bx P b fv gv S w0) (q:Below w0.heap.size w0 Wc) (k:StS Wc fv gv T (.slice a n c) (.slice a' n' c') W5) (hP:∀p∈P,p<w0.heap.size) (hz:W5.heap[t]?=some (.cells #[x0,x1,x2,x3,x4,x5,x6,x7,x8,x9,x10] 31 (0,0))) (h4:w0.heap.size<=t) (h5:t<Wc.heap.size):
 BxR P t T (((((((((((W5.setCell ⟨t,0,none⟩ (.slice a n c)).setCell ⟨t,1,none⟩ (.int .i64 T.d.c)).setCell ⟨t,2,none⟩ (.bool T.d.a)).setCell ⟨t,3,none⟩ (.int .i64 T.d.l)).setCell ⟨t,4,none⟩ (.bool T.d.x)).setCell ⟨t,5,none⟩ (.int .i64 T.v)).setCell ⟨t,6,none⟩ (.slice a' n' c')).setCell ⟨t,7,none⟩ (.int .i64 T.x)).setCell ⟨t,8,none⟩ (.int .i64 T.s)).setCell ⟨t,9,none⟩ (.int .i64 T.z)).setCell ⟨t,10,none⟩ (.int .u32 T.c)):=by
 obtain ⟨Z,e1,e2,_,e4,e5,_⟩:=zdU hz (.slice a n c) (.int .i64 T.d.c) (.bool T.d.a) (.int .i64 T.d.l) (.bool T.d.x) (.int .i64 T.v) (.slice a' n' c') (.int .i64 T.x) (.int .i64 T.s) (.int .i64 T.z) (.int .u32 T.c);rw [e1];have st:=k.s t h5 (IsL.sep_new h.f h4) (IsL.sep_new h.g h4);exact ⟨a,n,c,a',n',c',e2,e4 _ _ k.f st.1,e5 _ _ k.g st.2,fun p hp=>k.s p (Nat.lt_of_lt_of_le (hP p hp) q.size) (h.s p hp).1 (h.s p hp).2⟩
theorem BxR.bB {a a':Option Addr} {n c n' c':Nat} {x0 x1 x2 x3 x4 x5 x6 x7 x8 x9 x10:Value} (q:Below w0.heap.size w0 Wc) (k:StS Wc fv gv T (.slice a n c) (.slice a' n' c') W5) (h4:w0.heap.size<=t):Below w0.heap.size w0 (((((((((((W5.setCell ⟨t,0,none⟩ x0).setCell ⟨t,1,none⟩ x1).setCell ⟨t,2,none⟩ x2).setCell ⟨t,3,none⟩ x3).setCell ⟨t,4,none⟩ x4).setCell ⟨t,5,none⟩ x5).setCell ⟨t,6,none⟩ x6).setCell ⟨t,7,none⟩ x7).setCell ⟨t,8,none⟩ x8).setCell ⟨t,9,none⟩ x9).setCell ⟨t,10,none⟩ x10):=zg4 (q.trans (k.w.mono q.size)) h4 _ _ _ _ _ _ _ _ _ _ _
theorem Bx.copy (h:Bx P b fv gv T W) (hb:Bx P t fv' gv' S W) (hp:t∈P):
 ∃Z,((((((((((W.setCell ⟨t,0,none⟩ fv).setCell ⟨t,1,none⟩ (.int .i64 T.d.c)).setCell ⟨t,2,none⟩ (.bool T.d.a)).setCell ⟨t,3,none⟩ (.int .i64 T.d.l)).setCell ⟨t,4,none⟩ (.bool T.d.x)).setCell ⟨t,5,none⟩ (.int .i64 T.v)).setCell ⟨t,6,none⟩ gv).setCell ⟨t,7,none⟩ (.int .i64 T.x)).setCell ⟨t,8,none⟩ (.int .i64 T.s)).setCell ⟨t,9,none⟩ (.int .i64 T.z)).setCell ⟨t,10,none⟩ (.int .u32 T.c)=Z/\Bx P t fv gv T Z/\(∀x f g R,x≠t->Bx P x f g R W->Bx P x f g R Z)/\∀c w,c<=t->Below c w W->Below c w Z:=by
 obtain ⟨Z,e1,e2,e3,e4,e5,e6⟩:=zdU hb.d fv (.int .i64 T.d.c) (.bool T.d.a) (.int .i64 T.d.l) (.bool T.d.x) (.int .i64 T.v) gv (.int .i64 T.x) (.int .i64 T.s) (.int .i64 T.z) (.int .u32 T.c);exact ⟨Z,e1,⟨e2,e4 _ _ h.f (h.s t hp).1,e5 _ _ h.g (h.s t hp).2,h.s⟩,fun x f g R hx k=>⟨e3 x hx _ k.d,e4 _ _ k.f (k.s t hp).1,e5 _ _ k.g (k.s t hp).2,k.s⟩,e6⟩
end
end Sto
namespace Lg
open Dp So
theorem up_ext:∀{l k:List Fl},Up l->Up k->(∀n,get l n=get k n)->l=k:=by
 intro l k hl hk h
 have sub:∀{l k:List Fl},Up l->Up k->(∀n,get l n=get k n)->∀f∈l,f∈k:=fun hl hk h f hf=>by
  have h1:=zdv hl hf;rw [h] at h1;exact (get_mem h1).1
 have s1:=sub hl hk h;have s2:=sub hk hl fun n=>(h n).symm;clear h sub
 induction l generalizing k with
 | nil=>
  cases k with
  | nil=>rfl
  | cons g k=>exact absurd (s2 g mcs) (by simp)
 | cons f l ih=>
  cases k with
  | nil=>exact absurd (s1 f mcs) (by simp)
  | cons g k=>
   have hl':=List.pairwise_cons.1 hl;have hk':=List.pairwise_cons.1 hk
   have e:f=g:=by
    rcases List.mem_cons.1 (s1 f mcs) with h1 | h1
    · exact h1
    · rcases List.mem_cons.1 (s2 g mcs) with h2 | h2
      · exact h2.symm
      · exact absurd (hk'.1 f h1) (hl'.1 g h2).asymm
   subst e
   congr 1
   refine ih hl'.2 hk'.2 (fun x hx=>?_) fun x hx=>?_
   · rcases List.mem_cons.1 (s1 x (mcm hx)) with h1 | h1
     · exact absurd (h1▸hl'.1 x hx) (Lt.irrefl _)
     · exact h1
   · rcases List.mem_cons.1 (s2 x (mcm hx)) with h1 | h1
     · exact absurd (h1▸hk'.1 x hx) (Lt.irrefl _)
     · exact h1
end Lg
namespace Ins
open Go.RowKit So Dsk Sto Trm
section
variable {S:St} {at_:Int} {L:List UInt8} {k:Nat}
end
theorem inst_yes {q:Int} {n k:Nat} {S:St} (h:G13 q n k S) (hq:0<=q) (hk:k<=400) {at_:Int} {L:List UInt8} (h0:(Lg.installT S at_ L).2=0):
 ∃l,Fp.parse L=some l/\Fp.St l/\0<=at_/\at_<=1099511627776/\Lg.Log q (Lg.installT S at_ L).1 at_ l []/\(Lg.installT S at_ L).1.x=at_/\(Lg.installT S at_ L).1.v=S.v+1:=by
 obtain ⟨F,s0,rs,hL,_⟩:=h.log;have hv:=h.v;have hx:=hL.x;have hf:=hL.f0
 rcases zc3 hL hq (show S.v<1099511627776 by omega) (at_:=at_) (L:=L) with ⟨e,_⟩ | ⟨a1,a2,l,hp,hl,_,⟨h1,h2,h3⟩ | ⟨h1,h2,h3⟩⟩
 · rw [e] at h0;exact absurd (show (1:Int)=0 from h0) (by decide)
 · rcases h2 with ⟨h2,_⟩ | ⟨h2,_⟩<;>omega
 · exact ⟨l,hp,hl,by omega,a2,h1,by rw [h3];rfl,by rw [h3];rfl⟩
structure After (q at_:Int) (l:List Fp.Pr) (v k:Nat) (ds:List ByteArray) (Y:St):Prop where
 log:∃rs,Lg.Log q Y at_ l rs/\(rs.map fun r=>r.d)=ds
 n:ds.length<=k
 v:Y.v<=(v:Int)+(k:Int)
 d:Bd Y.d (30000+10*k)
section
variable {q at_:Int} {l:List Fp.Pr} {v k:Nat} {ds:List ByteArray} {Y:St}
theorem After.x (h:After q at_ l v k ds Y):Y.x=at_+(ds.length:Int):=by
 obtain ⟨rs,hL,hd⟩:=h.log;rw [hL.x, <-hd,List.length_map]
theorem After.ne (h:After q at_ l v k ds Y):Y.g≠[]:=by obtain ⟨rs,hL,_⟩:=h.log;exact hL.ne
theorem After.stb (h:After q at_ l v k ds Y) (hk:k<=1000) (hq:q<=1000):Stb Y:=by
 obtain ⟨rs,hL,_⟩:=h.log;exact Ro.log_stb hL h.d (by omega) hq
theorem After.state (h:After q at_ l v k ds Y):Lg.stateT Y Y.x=Fp.fold l ds:=by
 obtain ⟨rs,hL,hd⟩:=h.log;have e:=hL.state (k:=rs.length) (Nat.le_refl _);rw [<-hL.x,List.take_length,hd] at e;exact e
theorem After.app (h:After q at_ l v k ds Y) (hq:0<q) (hv:v+k<=100000) (d:ByteArray):
 ((So.append Y q ⟨Y.x,0,d⟩).2=0->After q at_ l v (k+1) (ds++[d]) (So.append Y q ⟨Y.x,0,d⟩).1):=by
 intro h0;obtain ⟨rs,hL,hd⟩:=h.log;have hvv:=h.v;obtain ⟨_,a2,a3⟩:=hL.append hq (by omega) ⟨Y.x,0,d⟩
 rcases a3 with ⟨_,_,_,a3⟩ | ⟨a3,_⟩
 · refine ⟨⟨_,a3,by rw [List.map_append,hd];rfl⟩,?_,by omega,(bd_app hL.ne h.d q _).mono (by omega)⟩
   have:=h.n
   rw [List.length_append,List.length_singleton];omega
 · exact absurd h0 a3
end
theorem zjZ {q:Int} {n k:Nat} {S:St} (h:G13 q n k S) (hq:0<=q) (hk:k<=200) {at_:Int} {L:List UInt8} (hL:L.length<=3000) (h0:(Lg.installT S at_ L).2=0):
 ∃l,Fp.parse L=some l/\Fp.St l/\After q at_ l (k+2) 0 [] (Lg.installT S at_ L).1:=by
 obtain ⟨l,h1,h2,h3,h4,h5,h6,h7⟩:=inst_yes h hq (by omega) h0;have hs:=h.segs;have hv:=h.v;exact ⟨l,h1,h2,⟨[],h5,rfl⟩,Nat.le_refl _,by rw [h7];omega,(zcF h.d hL).mono (by omega)⟩
end Ins
namespace Ins
open Go.RowKit So Dsk Rts Sto
section
variable {w W W5 Wc:World} {b t:Nat} {fv0 gv0 fv:Value} {cs cs':List (Nat×Obj)} {fs:List (Value×List Dp.Fl)} {gs:List (Value×List Rt.Sg)} {l:List Dp.Fl} {D:Dp.Dk} {a:Option Addr} {n c:Nat} {o:Obj}
theorem DkR.A' (h:Ms w b fv0 gv0 cs fs gs W) (hm:(fv,l)∈fs) (q:Below W.heap.size W Wc) (k:DkS Wc fv D (.slice a n c) W5):∃Z,W5.alloc (.cells #[.slice a n c,.int .i64 D.c,.bool D.a,.int .i64 D.l,.bool D.x] 27)=Z/\W.heap.size<=W5.heap.size/\DkR w b fv0 gv0 cs fs gs W5.heap.size D Z:=
 ⟨_,rfl,Nat.le_trans q.size k.w.size,DkR.A h hm q k⟩
theorem DkR.B' (h:Ms w b fv0 gv0 cs fs gs W) (hm:(fv,l)∈fs) (q:Below W.heap.size W Wc) (k:DkS Wc fv D (.slice a n c) W5) {x0 x1 x2 x3 x4:Value} (hz:W5.heap[t]?=some (.cells #[x0,x1,x2,x3,x4] 27 (0,0))) (h4:W.heap.size<=t) (h5:t<Wc.heap.size):
 ∃Z,((((W5.setCell ⟨t,0,none⟩ (.slice a n c)).setCell ⟨t,1,none⟩ (.int .i64 D.c)).setCell ⟨t,2,none⟩ (.bool D.a)).setCell ⟨t,3,none⟩ (.int .i64 D.l)).setCell ⟨t,4,none⟩ (.bool D.x)=Z/\W.heap.size<=t/\DkR w b fv0 gv0 cs fs gs t D Z:=
 ⟨_,rfl,h4,DkR.B h hm q k hz h4 h5⟩
end
section
variable {w W W5:World} {b:Nat} {fv gv:Value} {cs:List (Nat×Obj)} {fs:List (Value×List Dp.Fl)} {gs:List (Value×List Rt.Sg)} {x:Int} {o:Obj}
theorem ms_segA (h:Ms w b fv gv cs fs gs W) (hx:0<=x/\x<=1099511627776) (A:Array Value) (T:TypeId):Ms w b fv gv ((W.heap.size+1,.cells A T)::cs) fs ((.slice (some ⟨W.heap.size,0,none⟩) 1 1,[⟨x,0,0⟩])::gs) ((W.alloc (sgO x)).alloc (.cells A T)).drew:=by
 have:=(zes h hx).alloc A T;rw [World.size_alloc] at this;exact zk3 this
theorem ms_segB (h:Ms w b fv gv cs fs gs W) (hx:0<=x/\x<=1099511627776) (A:Array Value) (T:TypeId):Ms w b fv gv ((W.heap.size,.cells A T)::cs) fs ((.slice (some ⟨W.heap.size+1,0,none⟩) 1 1,[⟨x,0,0⟩])::gs) ((W.alloc (.cells A T)).alloc (sgO x)).drew:=by
 have:=zes (h.alloc A T) hx;rw [World.size_alloc] at this;exact zk3 this
end
section
variable {W0 W W':World} {t:Nat}
end
end Ins
namespace Trm
open Go.RowKit So Dsk Rts Sto
def NL:Lay ByteArray where
 enc:=fun s=>[.string s]
 k:=1
 len:=fun _=>rfl
 one:=by intro f u hu;simp at hu;rw [hu];rfl
 pos:=by decide
 T:=9
 ok:=fun _=>True
 z:=⟨#[]⟩
theorem nl_at {w:World} {a:Option Addr} {n cap:Nat} {l:List ByteArray} (h:IsL NL w (.slice a n cap) l) {i:Nat} (hi:i<n):∃b off,a=some ⟨b,off,none⟩/\w.cell? ⟨b,off+i,none⟩=some (.string (l.getD i ⟨#[]⟩)):=by
 have h':=h;obtain ⟨a',cap',e,_,_,h3⟩:=h
 injection e with e1 e2 e3
 rcases h3 with h3 | ⟨b,off,h4,_⟩
 · rw [h3] at e2;simp at e2;omega
 · subst e1
   subst h4
   refine ⟨b,off,rfl,?_⟩;have:=h'.at_ hi 0 _ rfl
   simpa [NL] using this
end Trm
namespace Dsk
open Go.RowKit Dp
theorem zgi (v1 v2:Value) (D:Dk) (w:World) (h1:IsL FL w v1 D.f) (h2:IsL FL w v2 D.f):
 Calls Tryz.prog 11 #[zac v1 D,zac v2 D] w fun e w'=>e= .returned (.bool true)/\Below w.heap.size w w':=by
 obtain ⟨fa,fn,fc,rfl⟩:∃a n c,v1= .slice a n c:=by obtain ⟨a,c,h,_⟩:=h1;exact ⟨a,_,c,h⟩
 obtain ⟨ga,gn,gc,rfl⟩:∃a n c,v2= .slice a n c:=by obtain ⟨a,c,h,_⟩:=h2;exact ⟨a,_,c,h⟩
 obtain rfl:gn=fn:=by rw [h1.len.1,h2.len.1]
 have hl:gn<=9223372036854775807:=by have:=h1.len;unfold maxLen at this;omega
 have H1:=zid h1;have H2:=zid h2;clear h1 h2;obtain ⟨fl,dc,da,dl,dx⟩:=D;unfold zac;dsimp only at*;obtain ⟨g0,g1,gb,gs⟩:=zay w #[.slice fa gn fc,.int .i64 dc,.bool da,.int .i64 dl,.bool dx] #[.slice ga gn gc,.int .i64 dc,.bool da,.int .i64 dl,.bool dx] 27 27;obtain ⟨p0,p1,p2,p3,p4⟩:=zaa g0;obtain ⟨q0,q1,q2,q3,q4⟩:=zaa g1;have GB:=zid gb;clear g0 g1 gb gs
 cases da
 all_goals cases dx
 all_goals
  go_enter Tryz.func11,Tryz.ntmps11
  go_wp2_with fail;generalize World.alloc (World.alloc w _) _=w0 at p0 p1 p2 p3 p4 q0 q1 q2 q3 q4 GB ⊢
  go_loopw [5] (fun i wr=>∃k n:Nat,k<=gn/\i= .int .i64 k/\wr=w0.drewN n) (fun i _=>gn-(intOf i).toNat)
  case atStart=>exact ⟨0,0,Nat.zero_le _,rfl,rfl⟩
  case round=>
   obtain ⟨k,n,hk,rfl,rfl⟩:=hrel
   by_cases hlt:k<gn
   · obtain ⟨b,off,rfl,c0,c1,c2⟩:=zb3 (H1.out.keep GB.out) hlt
     obtain ⟨b',off',rfl,d0,d1,d2⟩:=zb3 (H2.out.keep GB.out) hlt
     generalize fl.getD k zero=f at*;go_wp2_with fail
     go_quiet (fail)
     go_wp2_with fail
     go_roundw
     case rel=>exact ⟨k+1,_,by omega,by go_num,rfl⟩
     case measure=>simp [intOf];omega
   · go_wp2_with fail
     go_ret
     exact ⟨rfl,GB.out.trans ((zae n).mono GB.out.size)⟩
end Dsk
namespace Sto
open Go.RowKit So Dsk Rts
theorem zhu (f1 g1 f2 g2:Value) (S:St) (w:World) (hf1:IsL FL w f1 S.d.f) (hg1:IsL Rts.SL w g1 S.g) (hf2:IsL FL w f2 S.d.f) (hg2:IsL Rts.SL w g2 S.g):
 Calls Tryz.prog 10 #[zag f1 g1 S,zag f2 g2 S] w fun e w'=>e= .returned (.bool true)/\Below w.heap.size w w':=by
 obtain ⟨fa,fn,fc,rfl⟩:∃a n c,f1= .slice a n c:=by obtain ⟨a,c,h,_⟩:=hf1;exact ⟨a,_,c,h⟩
 obtain ⟨ha,hn,hc,rfl⟩:∃a n c,f2= .slice a n c:=by obtain ⟨a,c,h,_⟩:=hf2;exact ⟨a,_,c,h⟩
 obtain ⟨ga,gn,gc,rfl⟩:∃a n c,g1= .slice a n c:=by obtain ⟨a,c,h,_⟩:=hg1;exact ⟨a,_,c,h⟩
 obtain ⟨ka,kn,kc,rfl⟩:∃a n c,g2= .slice a n c:=by obtain ⟨a,c,h,_⟩:=hg2;exact ⟨a,_,c,h⟩
 obtain rfl:kn=gn:=by rw [hg1.len.1,hg2.len.1]
 have hl:kn<=9223372036854775807:=by have:=hg1.len;unfold maxLen at this;omega
 have DS:=zid fun (W:World) (h1:IsL FL W (.slice fa fn fc) S.d.f) (h2:IsL FL W (.slice ha hn hc) S.d.f)=>zgi (.slice fa fn fc) (.slice ha hn hc) S.d W h1 h2;have F1:=zid hf1;have F2:=zid hf2;have G1:=zid hg1;have G2:=zid hg2;clear hf1 hg1 hf2 hg2;obtain ⟨⟨df,dc,da,dl,dx⟩,sv,sg,sx,ss,sz,sc⟩:=S;unfold zag;unfold zac at DS;dsimp only at*;obtain ⟨g0,g1,gb,gs⟩:=zay w #[.slice fa fn fc,.int .i64 dc,.bool da,.int .i64 dl,.bool dx,.int .i64 sv,.slice ga kn gc,.int .i64 sx,.int .i64 ss,.int .i64 sz,.int .u32 sc] #[.slice ha hn hc,.int .i64 dc,.bool da,.int .i64 dl,.bool dx,.int .i64 sv,.slice ka kn kc,.int .i64 sx,.int .i64 ss,.int .i64 sz,.int .u32 sc] 31 31;obtain ⟨⟨p0,p1,p2,p3,p4⟩,p5,p6,p7,p8,p9,p10⟩:=zab g0;obtain ⟨⟨q0,q1,q2,q3,q4⟩,q5,q6,q7,q8,q9,q10⟩:=zab g1;have H0:=zid g0;have H1:=zid g1;have GB:=zid gb;clear g0 g1 gb gs
 go_enter Tryz.func10,Tryz.ntmps10
 go_wp2_with fail;generalize World.alloc (World.alloc w _) _=w0 at p0 p1 p2 p3 p4 p5 p6 p7 p8 p9 p10 q0 q1 q2 q3 q4 q5 q6 q7 q8 q9 q10 H0 H1 GB ⊢;refine (DS.out w0 (F1.out.keep GB.out) (F2.out.keep GB.out)).mono ?_;rintro e w1 ⟨rfl,b1⟩;clear p0 p1 p2 p3 p4 p5 p6 p7 p8 p9 p10 q0 q1 q2 q3 q4 q5 q6 q7 q8 q9 q10;obtain ⟨⟨p0,p1,p2,p3,p4⟩,p5,p6,p7,p8,p9,p10⟩:=zab (hkeep H0.out b1);obtain ⟨⟨q0,q1,q2,q3,q4⟩,q5,q6,q7,q8,q9,q10⟩:=zab (hkeep H1.out b1);have GB1:=zid (GB.out.trans (b1.mono GB.out.size));clear b1;go_wp2_with fail
 go_loopw [5] (fun i wr=>∃k n:Nat,k<=kn/\i= .int .i64 k/\wr=w1.drewN n) (fun i _=>kn-(intOf i).toNat)
 case atStart=>exact ⟨0,0,Nat.zero_le _,rfl,rfl⟩
 case round=>
  obtain ⟨k,n,hk,rfl,rfl⟩:=hrel
  by_cases hlt:k<kn
  · obtain ⟨b,off,rfl,c0,c1,c2⟩:=zce (G1.out.keep GB1.out) hlt
    obtain ⟨b',off',rfl,d0,d1,d2⟩:=zce (G2.out.keep GB1.out) hlt
    generalize sg.getD k Rt.zero=f at*;go_wp2_with fail
    go_quiet (fail)
    go_wp2_with fail
    go_roundw
    case rel=>exact ⟨k+1,_,by omega,by go_num,rfl⟩
    case measure=>simp [intOf];omega
  · go_wp2_with fail
    go_ret
    exact ⟨rfl,GB1.out.trans ((zae n).mono GB1.out.size)⟩
end Sto
namespace Ro
open Go.RowKit So Dsk Sto
section
variable {w W W':World} {cs:List (Nat×Obj)} {fs:List (Value×List Dp.Fl)} {gs:List (Value×List Rt.Sg)}
theorem Hv.start:Hv w [] [] [] w:=⟨fun _ h=>absurd h List.not_mem_nil,fun _ h=>absurd h List.not_mem_nil,fun _ h=>absurd h List.not_mem_nil,Below.refl _ _⟩
end
end Ro
namespace Ins
open Go.RowKit So Dsk Sto Trm
theorem inst_no2 {q:Int} {n k:Nat} {S:St} (h:G13 q n k S) (hq:0<=q) (hk:k<=400) {at_:Int} {L:List UInt8} (h0:(Lg.installT S at_ L).2≠0):
 (Lg.installT S at_ L).2=10\/((Lg.installT S at_ L).2≠10/\(Lg.installT S at_ L).1.x=S.x/\(Lg.installT S at_ L).1.v=S.v/\(Lg.installT S at_ L).1.d.f=S.d.f/\(Lg.installT S at_ L).1.d.c=S.d.c/\(S.d.a=false->(Lg.installT S at_ L).1.d.a=false/\(Lg.installT S at_ L).1.d.l=S.d.l)):=by
 obtain ⟨F,s0,rs,hL,_⟩:=h.log;have hv:=h.v
 rcases zc3 hL hq (show S.v<1099511627776 by omega) (at_:=at_) (L:=L) with ⟨e,_⟩ | ⟨_,_,l,_,_,_,⟨h1,h2,h3⟩ | ⟨_,h2,_⟩⟩
 · rw [e]
   exact .inr ⟨(by decide:(1:Int)≠10),rfl,rfl,rfl,rfl,fun h=>⟨h,rfl⟩⟩
 · rcases h2 with ⟨h9,hx,_,hf⟩ | ⟨h2,_⟩
   · have hV:=Lg.via_install S at_ L
     refine .inr ⟨by rw [h9];decide,by rw [h3],by rw [h3],Lg.up_ext h1.dr.2.1 hL.dr.2.1 hf,hV.c,fun ha=>?_⟩
     obtain ⟨k1,_,k3⟩:=hV.k ha hx;exact ⟨k1,k3⟩
   · exact .inl h2
 · rcases h2 with h2 | ⟨h2,_⟩
   · exact absurd h2 h0
   · exact .inl h2
theorem ziK {q:Int} {n k:Nat} {S:St} (h:G13 q n k S) {at_:Int} {L:List UInt8} (h0:(Lg.installT S at_ L).2=0):1<=at_:=by
 obtain ⟨F,s0,rs,hL,_⟩:=h.log;have hx:=hL.x;have hf:=hL.f0
 by_cases hc:at_<=S.x\/1099511627776<at_\/Fp.parse L=none
 · rw [zd3 hc] at h0;exact absurd (show (1:Int)=0 from h0) (by decide)
 · have h1:¬at_<=S.x:=fun e=>hc (.inl e)
   omega
structure Lp (q at_:Int) (l:List Fp.Pr) (v k:Nat) (ds:List ByteArray) (Y:St):Prop where
 a:After q at_ l v k ds Y
 l:Fp.St l
 z:∀d∈ds,d.size<=64
section
variable {q at_:Int} {l:List Fp.Pr} {v k:Nat} {ds:List ByteArray} {Y:St}
theorem Lp.st (h:Lp q at_ l v k ds Y):Fp.St (Fp.fold l ds):=h.l.fold h.z
theorem Lp.app (h:Lp q at_ l v k ds Y) (hq:0<q) (hv:v+k<=100000) (d:ByteArray) (h0:(So.append Y q ⟨Y.x,0,d⟩).2=0):
 Lp q at_ l v (k+1) (ds++[d]) (So.append Y q ⟨Y.x,0,d⟩).1/\Fp.fold l (ds++[d])=Fp.step (Fp.fold l ds) d:=by
 have hd:d.size<=64:=by
  apply Classical.byContradiction
  intro hn;unfold So.append at h0;rw [if_pos (fun hk:Rp.Ok ⟨Y.x,0,d⟩/\_=>hn hk.1.2.2.2.2)] at h0;exact absurd (show (1:Int)=0 from h0) (by decide)
 refine ⟨⟨h.a.app hq hv d h0,h.l,fun e he=>?_⟩,?_⟩
 · rcases List.mem_append.1 he with he | he
   · exact h.z e he
   · rw [List.mem_singleton.1 he];exact hd
 · unfold Fp.fold
   rw [List.foldl_append]
   rfl
end
theorem lp_zero {q:Int} {n k:Nat} {S:St} (h:G13 q n k S) (hq:0<=q) (hk:k<=200) {at_:Int} {L:List UInt8} (hL:L.length<=3000) (h0:(Lg.installT S at_ L).2=0):
 ∃l,Fp.parse L=some l/\Lp q at_ l (k+2) 0 [] (Lg.installT S at_ L).1/\(Lg.installT S at_ L).1.x=at_/\zb6 (Lg.installT S at_ L).1 (at_-1)=(Rp.zero,11):=by
 obtain ⟨l,h1,h2,h3⟩:=zjZ h hq hk hL h0;have hp:=ziK h h0;obtain ⟨rs,hl,_⟩:=h3.log;exact ⟨l,h1,⟨h3,h2,fun d hd=>absurd hd List.not_mem_nil⟩,by rw [h3.x];exact Int.add_zero _,hl.read_low (by omega) (by omega)⟩
theorem zkK {W W':World} {v:Value} {l:List Fp.Pr} {t:Nat} {A:Array Value} {T:TypeId} (h:zaY W v l) (hb:W.heap[t]?=some (.cells A T (0,0))) (hA:∀(i:Nat) (s:ByteArray),A[i]?≠some (.string s)) (g:W.grownBy W' (some t)):zaY W' v l:=by
 obtain ⟨a,cap,rfl,h1,h2,h3⟩:=h;refine ⟨a,cap,rfl,h1,h2,?_⟩
 rcases h3 with h3 | ⟨b,off,rfl,h4⟩
 · exact .inl h3
 · refine .inr ⟨b,off,rfl,fun i hi=>?_⟩
   obtain ⟨c0,c1⟩:=h4 i hi
   have hbt:b≠t:=by
    rintro rfl;rw [Lib.cell_of_heap hb] at c1;exact hA _ _ c1
   exact ⟨g.cell c0 (fun e=>hbt (Option.some.inj e)),g.cell c1 (fun e=>hbt (Option.some.inj e))⟩
theorem zho (f g:Value) (S:St) (hf:∀s,f≠ .string s) (hg:∀s,g≠ .string s):∀(i:Nat) (s:ByteArray),(#[f,.int .i64 S.d.c,.bool S.d.a,.int .i64 S.d.l,.bool S.d.x,.int .i64 S.v,g,.int .i64 S.x,.int .i64 S.s,.int .i64 S.z,.int .u32 S.c]:Array Value)[i]?≠some (.string s):=by
 intro i s e
 match i,e with
 | 0,e=>exact hf s (Option.some.inj e)
 | 1,e=>cases e
 | 2,e=>cases e
 | 3,e=>cases e
 | 4,e=>cases e
 | 5,e=>cases e
 | 6,e=>exact hg s (Option.some.inj e)
 | 7,e=>cases e
 | 8,e=>cases e
 | 9,e=>cases e
 | 10,e=>cases e
 | i+11,e=>cases e
theorem zkp (v1 v2:Value) (f:List Dp.Fl) (c:Int) (a1 a2 x:Bool) (l1 l2:Int) (w:World) (h1:IsL FL w v1 f) (h2:IsL FL w v2 f):
 Calls Tryz.prog 11 #[zac v1 ⟨f,c,a1,l1,x⟩,zac v2 ⟨f,c,a2,l2,x⟩] w fun e w'=>(∃b,e= .returned (.bool b)/\(a1=a2->l1=l2->b=true))/\Below w.heap.size w w':=by
 by_cases hs:a1=a2/\l1=l2
 · obtain ⟨rfl,rfl⟩:=hs
   refine (zgi v1 v2 ⟨f,c,a1,l1,x⟩ w h1 h2).mono ?_
   rintro e w' ⟨rfl,hb⟩;exact ⟨⟨true,rfl,fun _ _=>rfl⟩,hb⟩
 obtain ⟨fa,fn,fc,rfl⟩:∃a n c,v1= .slice a n c:=by obtain ⟨a,c,h,_⟩:=h1;exact ⟨a,_,c,h⟩
 obtain ⟨ga,gn,gc,rfl⟩:∃a n c,v2= .slice a n c:=by obtain ⟨a,c,h,_⟩:=h2;exact ⟨a,_,c,h⟩
 obtain rfl:gn=fn:=by rw [h1.len.1,h2.len.1]
 have HS:=zid hs;clear h1 h2 hs;unfold zac;dsimp only at*;obtain ⟨g0,g1,gb,gs⟩:=zay w #[.slice fa gn fc,.int .i64 c,.bool a1,.int .i64 l1,.bool x] #[.slice ga gn gc,.int .i64 c,.bool a2,.int .i64 l2,.bool x] 27 27;obtain ⟨p0,p1,p2,p3,p4⟩:=zaa g0;obtain ⟨q0,q1,q2,q3,q4⟩:=zaa g1;have GB:=zid gb;clear g0 g1 gb gs
 by_cases hl:l1=l2
 · subst hl
   have ha:a1≠a2:=fun e=>HS.out ⟨e,rfl⟩
   cases a1<;>cases a2
   case false.false=>exact absurd rfl ha
   case true.true=>exact absurd rfl ha
   all_goals
    clear ha HS
    go_enter Tryz.func11,Tryz.ntmps11
    go_wp2_with fail;go_ret;exact ⟨⟨_,rfl,fun h=>by cases h⟩,GB.out⟩
 · have e1:(l1 != l2)=true:=by simpa using hl
   have hll:l1=l2->False:=hl
   clear hl HS
   cases a1<;>cases a2
   all_goals
    go_enter Tryz.func11,Tryz.ntmps11
    go_wp2_with fail;go_ret;exact ⟨⟨_,rfl,fun _ h=>(hll h).elim⟩,GB.out⟩
end Ins
end Go.Proofs.YtgmppfpllogdcaaGreat

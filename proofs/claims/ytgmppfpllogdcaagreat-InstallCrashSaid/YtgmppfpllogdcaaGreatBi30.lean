/-
  Parts of what the laws of this seat stand on:StoAll,StoRdd,StoFrom,FoldVal,FoldIns,FoldSearch,FoldTake,FoldStep.
-/
import Derived.BigQuiet
import Derived.ChangeArms
import Derived.Deep.QuietTactic
import Derived.Deep.RegionHeld3
import Derived.Deep.RegionLaw
import Derived.Deep.Slices
import Derived.Deep.Strs
import Derived.IntWalk
import Derived.Lib.AppendZerosOnto
import Derived.Lib.Builder
import Derived.Lib.SliceRun
import Derived.Lib.SmallJoins
import Derived.Lib.Strings
import Derived.Shelf.RegionOpenPlain
import Derived.Shelf.Spec.SlicesInsert
import Derived.Test.YtgmppfpllogdcaaGreatBi1
import Derived.Test.YtgmppfpllogdcaaGreatBi14
import Derived.Test.YtgmppfpllogdcaaGreatBi19
import Derived.Test.YtgmppfpllogdcaaGreatBi25
import Derived.Test.YtgmppfpllogdcaaGreatBi3
import Derived.Test.YtgmppfpllogdcaaGreatBi8
set_option maxRecDepth 100000
set_option maxHeartbeats 6400000
namespace Go.Proofs.YtgmppfpllogdcaaGreat
namespace Sto
open Go.RowKit So Dsk Rts
def sgVal (g:Rt.Sg):Value:= .agg #[.int .i64 g.b,.int .i64 g.n,.int .i64 g.z]
def AllRs (w:World) (l:List Rp.Rec) (e:Ending) (w':World):Prop:=∃v,e= .returned v/\zbL w' v l/\Below w.heap.size w w'
theorem read_as (D:Dp.Dk) (n:ByteArray) (h:Sm D):∃(s:ByteArray) (e:Int),zby D.f n= .tuple #[.string s,.int .i64 e]/\s.data.toList=(dat D n).getD []/\s.size<=4398046511104:=by
 unfold dat
 cases hg:Dp.get D.f n with
 | none=>exact ⟨⟨#[]⟩,7,zch hg,rfl,by decide⟩
 | some f=>
  refine ⟨f.d,0,zbT hg,rfl,?_⟩;have h1:=zcr (Dp.get_mem hg).1;have h2:=h.u;omega
theorem keep8 {w W W':World} {b:Nat} {v0 v1 v2 v3 v4 u0:Value}
 (h:W.cell? ⟨b,0,none⟩=some v0/\W.cell? ⟨b,1,none⟩=some v1/\W.cell? ⟨b,2,none⟩=some v2/\W.cell? ⟨b,3,none⟩=some v3/\W.cell? ⟨b,4,none⟩=some v4/\W.cell? ⟨b+1,0,none⟩=some u0/\Below w.heap.size w W) (k:Below W.heap.size W W'):
 W'.cell? ⟨b,0,none⟩=some v0/\W'.cell? ⟨b,1,none⟩=some v1/\W'.cell? ⟨b,2,none⟩=some v2/\W'.cell? ⟨b,3,none⟩=some v3/\W'.cell? ⟨b,4,none⟩=some v4/\W'.cell? ⟨b+1,0,none⟩=some u0/\Below w.heap.size w W':=by
 obtain ⟨h0,h1,h2,h3,h4,h5,hb⟩:=h;have q:∀{b o:Nat} {x:Value},W.cell? ⟨b,o,none⟩=some x->W'.cell? ⟨b,o,none⟩=some x:=fun {b o x} e=>(World.cell?_of_block (k.block b (block_lt_of_cell e))).trans e;exact ⟨q h0,q h1,q h2,q h3,q h4,q h5,hb.trans (k.mono hb.size)⟩
theorem bel8 {w W:World} {b:Nat} {v0 v1 v2 v3 v4 u0:Value}
 (h:W.cell? ⟨b,0,none⟩=some v0/\W.cell? ⟨b,1,none⟩=some v1/\W.cell? ⟨b,2,none⟩=some v2/\W.cell? ⟨b,3,none⟩=some v3/\W.cell? ⟨b,4,none⟩=some v4/\W.cell? ⟨b+1,0,none⟩=some u0/\Below w.heap.size w W):Below w.heap.size w W:=h.2.2.2.2.2.2
theorem zjv (fv gv:Value) (S:St) (g:Rt.Sg) (w:World) (hf:IsL FL w fv S.d.f) (hS:Sm S.d) (hg:0<=g.b/\g.b<=1152921504606846976):
 Calls Tryz.prog 40 #[zag fv gv S,sgVal g] w (AllRs w (zc5 S.d g.b)):=by
 obtain ⟨fa,fn,fc,rfl⟩:∃a n c,fv= .slice a n c:=by obtain ⟨a,c,h,_⟩:=hf;exact ⟨a,_,c,h⟩
 obtain ⟨g0,g1,gb,gs⟩:=zay w #[.slice fa fn fc,.int .i64 S.d.c,.bool S.d.a,.int .i64 S.d.l,.bool S.d.x,.int .i64 S.v,gv,.int .i64 S.x,.int .i64 S.s,.int .i64 S.z,.int .u32 S.c] #[.int .i64 g.b,.int .i64 g.n,.int .i64 g.z] 31 63;have SG:=zid fun W:World=>zbq g.b W (by omega);obtain ⟨s,er,hrv,hs,hsz⟩:=read_as S.d (segN g.b) hS;have RD:=zid fun (W:World) (h:IsL FL W (.slice fa fn fc) S.d.f)=>Dsk.rread_any (.slice fa fn fc) S.d (segN g.b) W h;rw [hrv] at RD;have SC:=zid fun W:World=>zeR s g.b W hsz (by omega) (by omega);have HF:=zid (show (Gp.full s.data.toList g.b).1.map Prod.fst=zc5 S.d g.b from by rw [hs];rfl);rw [show (⟨(Np.nameL 115 g.b).toArray⟩:ByteArray)=segN g.b from rfl] at SG;generalize segN g.b=sn at SG RD;generalize Gp.full s.data.toList g.b=F at SC HF;have F0:=zid hf;clear hf hg hrv hs hsz hS;unfold zag sgVal;unfold zac at RD
 go_enter Tryz.func40,Tryz.ntmps40
 go_upto_region 1 with (fail);generalize (w.alloc _).alloc _=w0 at g0 g1 gb gs ⊢;obtain ⟨⟨k0,k1,k2,k3,k4⟩,k5,k6,k7,k8,k9,k10⟩:=zab g0;obtain ⟨s0,s1,s2⟩:=cells3 g1;have ST:w0.cell? ⟨w.heap.size,0,none⟩=some (.slice fa fn fc)/\w0.cell? ⟨w.heap.size,1,none⟩=some (.int .i64 S.d.c)/\w0.cell? ⟨w.heap.size,2,none⟩=some (.bool S.d.a)/\w0.cell? ⟨w.heap.size,3,none⟩=some (.int .i64 S.d.l)/\w0.cell? ⟨w.heap.size,4,none⟩=some (.bool S.d.x)/\w0.cell? ⟨w.heap.size+1,0,none⟩=some (.int .i64 g.b)/\Below w.heap.size w w0:=⟨k0,k1,k2,k3,k4,s0,gb⟩;clear g0 g1 gb gs k0 k1 k2 k3 k4 k5 k6 k7 k8 k9 k10 s0 s1 s2
 go_region_held3 (fun W=>W.cell? ⟨w.heap.size,0,none⟩=some (.slice fa fn fc)/\W.cell? ⟨w.heap.size,1,none⟩=some (.int .i64 S.d.c)/\W.cell? ⟨w.heap.size,2,none⟩=some (.bool S.d.a)/\W.cell? ⟨w.heap.size,3,none⟩=some (.int .i64 S.d.l)/\W.cell? ⟨w.heap.size,4,none⟩=some (.bool S.d.x)/\W.cell? ⟨w.heap.size+1,0,none⟩=some (.int .i64 g.b)/\Below w.heap.size w W) (first | with_reducible assumption | with_reducible exact keep8 (by assumption) (Below.refl _ _).drew | with_reducible exact keep8 (by assumption) (by assumption)) (first | (go_at_call 35;refine (SG.out _).mono ?_;rintro e w4 ⟨rfl,b4⟩) | (go_at_call 47;refine (RD.out _ (F0.out.keep (bel8 (by assumption)))).mono ?_;rintro e w5 ⟨rfl,b5⟩))
 rename_i qq;have Q:=zid (bel8 qq);go_wp2_with fail;refine (SC.out _).mono ?_;rintro e w6 ⟨v,rfl,hr,b6⟩;have HR:=zid hr;have B6:=zid (Q.out.trans (b6.mono Q.out.size));clear hr b6 qq;go_wp2_with fail;go_ret;exact ⟨_,rfl,by rw [<-HF.out];exact HR.out,B6.out⟩
theorem rec_at {w:World} {a:Option Addr} {n c:Nat} {rs:List Rp.Rec} (h:zbL w (.slice a n c) rs) {i:Nat} (hi:i<n):
 ∃b off,a=some ⟨b,off,none⟩/\w.cell? ⟨b,off+i*3,none⟩=some (.int .i64 (rs.getD i Rp.zero).a)/\w.cell? ⟨b,off+i*3+1,none⟩=some (.int .i64 (rs.getD i Rp.zero).t)/\w.cell? ⟨b,off+i*3+2,none⟩=some (.string (rs.getD i Rp.zero).d):=by
 obtain ⟨a',cap',e,_,_,h3⟩:=h
 injection e with e1 e2 e3
 rcases h3 with h3 | ⟨b,off,h4,h5⟩
 · rw [h3] at e2;simp at e2;omega
 · exact ⟨b,off,by rw [e1,h4],h5 i (by omega)⟩
section
variable {f:Rt.Sg->List Rp.Rec} {l:List Rt.Sg} {o:Int}
def zc6 (f:Rt.Sg->List Rp.Rec) (l:List Rt.Sg) (o:Int) (i:Nat):Prop:=∀g∈l.take i,∀r∈f g,r.a≠o
def zfi (rs:List Rp.Rec) (o:Int) (k:Nat):Prop:=∀r∈rs.take k,r.a≠o
theorem zfi.next {rs:List Rp.Rec} {k:Nat} (h:zfi rs o k) (hk:k<rs.length) (hn:(rs.getD k Rp.zero).a≠o):zfi rs o (k+1):=by
 intro r hr;rw [List.take_succ_eq_append_getElem hk,List.mem_append] at hr
 rcases hr with hr | hr
 · exact h r hr
 · rw [List.mem_singleton] at hr;subst hr
   rwa [zao hk] at hn
theorem zc6.next {i:Nat} (h:zc6 f l o i) (hi:i<l.length) (hn:zfi (f (l.getD i Rt.zero)) o (f (l.getD i Rt.zero)).length):zc6 f l o (i+1):=by
 intro g hg;rw [List.take_succ_eq_append_getElem hi,List.mem_append] at hg
 rcases hg with hg | hg
 · exact h g hg
 · rw [List.mem_singleton] at hg;subst hg
   intro r hr
   rw [zao hi] at hn;exact hn r (by rw [List.take_length];exact hr)
theorem zc6.all {i:Nat} (h:zc6 f l o i) (hi:l.length<=i):(l.flatMap f).find? (fun r=>decide (r.a=o))=none:=by
 rw [List.find?_eq_none];intro r hr;rw [List.mem_flatMap] at hr;obtain ⟨g,hg,hr⟩:=hr
 simpa using h g (by rw [List.take_of_length_le hi];exact hg) r hr
theorem zc6.hit {i k:Nat} (h:zc6 f l o i) (hi:i<l.length) (h2:zfi (f (l.getD i Rt.zero)) o k) (hk:k<(f (l.getD i Rt.zero)).length) (h3:((f (l.getD i Rt.zero)).getD k Rp.zero).a=o):
 (l.flatMap f).find? (fun r=>decide (r.a=o))=some ((f (l.getD i Rt.zero)).getD k Rp.zero):=by
 have e1:l=l.take i++l.getD i Rt.zero::l.drop (i+1):=by
  rw [zao hi,List.getElem_cons_drop,List.take_append_drop]
 have e2:f (l.getD i Rt.zero)=(f (l.getD i Rt.zero)).take k++(f (l.getD i Rt.zero)).getD k Rp.zero::(f (l.getD i Rt.zero)).drop (k+1):=by
  rw [zao hk,List.getElem_cons_drop,List.take_append_drop]
 have n1:((l.take i).flatMap f).find? (fun r=>decide (r.a=o))=none:=by
  rw [List.find?_eq_none];intro r hr;rw [List.mem_flatMap] at hr;obtain ⟨g,hg,hr⟩:=hr
  simpa using h g hg r hr
 have n2:((f (l.getD i Rt.zero)).take k).find? (fun r=>decide (r.a=o))=none:=by
  rw [List.find?_eq_none];intro r hr
  simpa using h2 r hr
 generalize hG:l.getD i Rt.zero=G at*;generalize hR:(f G).getD k Rp.zero=R at*;rw [e1,List.flatMap_append,List.find?_append,n1,List.flatMap_cons,List.find?_append,e2,List.find?_append,n2]
 simp [h3]
end
theorem read_lo {S:St} {o:Int} (h:o<0\/S.x<=o):zb6 S o=(Rp.zero,6):=by unfold zb6;rw [if_pos h]
theorem read_hit {S:St} {o:Int} (h:¬(o<0\/S.x<=o)) {r:Rp.Rec} (hr:(S.g.flatMap fun g=>zc5 S.d g.b).find? (fun r=>decide (r.a=o))=some r):zb6 S o=(r,0):=by unfold zb6;rw [if_neg h,hr]
theorem read_no {S:St} {o:Int} (h:¬(o<0\/S.x<=o)) (hr:(S.g.flatMap fun g=>zc5 S.d g.b).find? (fun r=>decide (r.a=o))=none):zb6 S o=(Rp.zero,11):=by unfold zb6;rw [if_neg h,hr]
theorem keepG {w W W':World} {b t n:Nat} {v0 v1 v2 v3 v4 v5 v6 v7 v8 v9 v10 u0 u1 u2:Value}
 (h:W.cell? ⟨b,0,none⟩=some v0/\W.cell? ⟨b,1,none⟩=some v1/\W.cell? ⟨b,2,none⟩=some v2/\W.cell? ⟨b,3,none⟩=some v3/\W.cell? ⟨b,4,none⟩=some v4/\W.cell? ⟨b,5,none⟩=some v5/\W.cell? ⟨b,6,none⟩=some v6/\W.cell? ⟨b,7,none⟩=some v7/\W.cell? ⟨b,8,none⟩=some v8/\W.cell? ⟨b,9,none⟩=some v9/\W.cell? ⟨b,10,none⟩=some v10/\W.cell? ⟨t,n,none⟩=some u0/\W.cell? ⟨t,n+1,none⟩=some u1/\W.cell? ⟨t,n+2,none⟩=some u2/\Below w.heap.size w W) (k:Below W.heap.size W W'):W'.cell? ⟨b,0,none⟩=some v0/\W'.cell? ⟨b,1,none⟩=some v1/\W'.cell? ⟨b,2,none⟩=some v2/\W'.cell? ⟨b,3,none⟩=some v3/\W'.cell? ⟨b,4,none⟩=some v4/\W'.cell? ⟨b,5,none⟩=some v5/\W'.cell? ⟨b,6,none⟩=some v6/\W'.cell? ⟨b,7,none⟩=some v7/\W'.cell? ⟨b,8,none⟩=some v8/\W'.cell? ⟨b,9,none⟩=some v9/\W'.cell? ⟨b,10,none⟩=some v10/\W'.cell? ⟨t,n,none⟩=some u0/\W'.cell? ⟨t,n+1,none⟩=some u1/\W'.cell? ⟨t,n+2,none⟩=some u2/\Below w.heap.size w W':=by
 obtain ⟨h0,h1,h2,h3,h4,h5,h6,h7,h8,h9,h10,g0,g1,g2,hb⟩:=h;have q:∀{b o:Nat} {x:Value},W.cell? ⟨b,o,none⟩=some x->W'.cell? ⟨b,o,none⟩=some x:=fun {b o x} e=>(World.cell?_of_block (k.block b (block_lt_of_cell e))).trans e;exact ⟨q h0,q h1,q h2,q h3,q h4,q h5,q h6,q h7,q h8,q h9,q h10,q g0,q g1,q g2,hb.trans (k.mono hb.size)⟩
def RdVal (R:Rp.Rec×Int):Value:= .tuple #[zbm R.1,.int .i64 R.2]
theorem zeg (fa ga:Option Addr) (fn fc gn gc:Nat) (S:St) (o:Int) (w:World) (hf:IsL FL w (.slice fa fn fc) S.d.f) (hg:IsL Rts.SL w (.slice ga gn gc) S.g) (hB:Stb S):
 Calls Tryz.prog 13 #[zag (.slice fa fn fc) (.slice ga gn gc) S,.int .i64 o] w fun e w'=>e= .returned (RdVal (zb6 S o))/\Below w.heap.size w w':=by
 obtain ⟨g0,g1,gb,gs⟩:=zay w #[.slice fa fn fc,.int .i64 S.d.c,.bool S.d.a,.int .i64 S.d.l,.bool S.d.x,.int .i64 S.v,.slice ga gn gc,.int .i64 S.x,.int .i64 S.s,.int .i64 S.z,.int .u32 S.c] #[.int .i64 0,.int .i64 0,.string ⟨#[]⟩] 31 46;have hgl:=hg.len.1
 have hgn:gn<=1000:=by rw [hgl];exact hB.n
 have HGL:=zid hgl;have HB:=zid hB;have F0:=zid hf;have G0:=zid hg;have HAL:=zid fun (W:World) (g:Rt.Sg) (hW:IsL FL W (.slice fa fn fc) S.d.f) (hg:0<=g.b/\g.b<=1152921504606846976)=>zjv (.slice fa fn fc) (.slice ga gn gc) S g W hW hB.d hg;unfold zag sgVal at HAL;clear hf hg hgl hB;unfold zag
 by_cases hlo:o<0\/S.x<=o
 · have HR:=zid (read_lo hlo)
   have LOB:(decide (o<0)=true)\/(decide (o<0)=false/\S.x<=o):=by
    by_cases h:o<0
    · exact .inl (by simpa using h)
    · exact .inr ⟨by simpa using h,hlo.resolve_left h⟩
   clear hlo
   go_enter Tryz.func13,Tryz.ntmps13
   go_upto_region 1 with (fail);generalize (w.alloc _).alloc _=w0 at g0 g1 gb gs ⊢;obtain ⟨⟨k0,k1,k2,k3,k4⟩,k5,k6,k7,k8,k9,k10⟩:=zab g0;obtain ⟨y0,y1,y2⟩:=cells3 g1;obtain ⟨yf0,yf1,yf2⟩:=zb7 g1;have LY:=zid (show ∃Z,((w0.setCell ⟨w.heap.size+1,0,none⟩ (.int .i64 0)).setCell ⟨w.heap.size+1,1,none⟩ (.int .i64 0)).setCell ⟨w.heap.size+1,2,none⟩ (.string ⟨#[]⟩)=Z/\Z.heap[w.heap.size+1]?=some (.cells #[.int .i64 0,.int .i64 0,.string ⟨#[]⟩] 46 (0,0))/\Below w.heap.size w Z from ⟨_,rfl,zdu g1 _ _ _,bel_st3 gb (Nat.le_succ _) _ _ _⟩);clear g0 g1 gb gs
   rcases LOB with h | ⟨h,h'⟩
   all_goals
    go_wp2_with fail
    obtain ⟨Z,hZ,Z1,Z2⟩:=LY.out;rw [hZ];obtain ⟨z0,z1,z2⟩:=cells3 Z1;refine bodyPost_ret (v:= .tuple #[.agg #[.int .i64 0,.int .i64 0,.string ⟨#[]⟩],.int .i64 6]) (by simp [results,Tryz.results13,go_sem,z0,z1,z2]) rfl ?_;exact ⟨by rw [HR.out];rfl,Z2⟩
 have h0:¬o<0:=fun h=>hlo (.inl h);have h1:¬S.x<=o:=fun h=>hlo (.inr h);have HL:=zid hlo;clear hlo
 go_enter Tryz.func13,Tryz.ntmps13
 have hd1:decide (o<0)=false:=by simpa using h0
 go_upto_region 1 with (fail);generalize (w.alloc _).alloc _=w0 at g0 g1 gb gs ⊢;obtain ⟨⟨k0,k1,k2,k3,k4⟩,k5,k6,k7,k8,k9,k10⟩:=zab g0;obtain ⟨s0,s1,s2⟩:=cells3 g1;have Q0:=zid g0;have Q1:=zid g1;have QB:=zid gb;clear g0 g1 gb gs;go_wp2_with fail;clear k0 k1 k2 k3 k4 k5 k6 k7 k8 k9 k10 s0 s1 s2
 go_loopw [6] (fun i wr=>∃m:Nat,m<=gn/\i= .int .i64 m/\zc6 (fun g=>zc5 S.d g.b) S.g o m/\wr.heap[w.heap.size]?=some (.cells #[.slice fa fn fc,.int .i64 S.d.c,.bool S.d.a,.int .i64 S.d.l,.bool S.d.x,.int .i64 S.v,.slice ga gn gc,.int .i64 S.x,.int .i64 S.s,.int .i64 S.z,.int .u32 S.c] 31 (0,0))/\wr.heap[w.heap.size+1]?=some (.cells #[.int .i64 0,.int .i64 0,.string ⟨#[]⟩] 46 (0,0))/\Below w.heap.size w wr) (fun i _=>gn-(intOf i).toNat)
 case atStart=>exact ⟨0,Nat.zero_le _,rfl,fun g hg=>by simp at hg,Q0.out,Q1.out,QB.out⟩
 case round=>
  obtain ⟨m,hm,rfl,hno,q0,q1,hb⟩:=hrel;have NO:=zid hno;have P0:=zid q0;have P1:=zid q1;have PB:=zid hb;obtain ⟨⟨k0,k1,k2,k3,k4⟩,k5,k6,k7,k8,k9,k10⟩:=zab q0
  by_cases hlt:m<gn
  · obtain ⟨gb,off,rfl,c0,c1,c2⟩:=zce (G0.out.keep hb) hlt
    have hg0:=(HB.out.g _ (by rw [zao (show m<S.g.length by rw [<-HGL.out];exact hlt)];exact List.getElem_mem _):((0<=(S.g.getD m Rt.zero).b/\(S.g.getD m Rt.zero).b<=1152921504606846976)/\_)).1
    obtain ⟨gg,hgg⟩:∃g,S.g.getD m Rt.zero=g:=⟨_,rfl⟩;have HGG:=zid hgg;have HG0:=zid hg0;rw [hgg] at c0 c1 c2 HG0;clear hg0 hno q0 q1 hgg;go_wp2_with fail;have ST:wr.cell? ⟨w.heap.size,0,none⟩=some (.slice fa fn fc)/\wr.cell? ⟨w.heap.size,1,none⟩=some (.int .i64 S.d.c)/\wr.cell? ⟨w.heap.size,2,none⟩=some (.bool S.d.a)/\wr.cell? ⟨w.heap.size,3,none⟩=some (.int .i64 S.d.l)/\wr.cell? ⟨w.heap.size,4,none⟩=some (.bool S.d.x)/\wr.cell? ⟨w.heap.size,5,none⟩=some (.int .i64 S.v)/\wr.cell? ⟨w.heap.size,6,none⟩=some (.slice (some ⟨gb,off,none⟩) gn gc)/\wr.cell? ⟨w.heap.size,7,none⟩=some (.int .i64 S.x)/\wr.cell? ⟨w.heap.size,8,none⟩=some (.int .i64 S.s)/\wr.cell? ⟨w.heap.size,9,none⟩=some (.int .i64 S.z)/\wr.cell? ⟨w.heap.size,10,none⟩=some (.int .u32 S.c)/\wr.cell? ⟨gb,off+m*3,none⟩=some (.int .i64 gg.b)/\wr.cell? ⟨gb,off+m*3+1,none⟩=some (.int .i64 gg.n)/\wr.cell? ⟨gb,off+m*3+2,none⟩=some (.int .i64 gg.z)/\Below w.heap.size w wr:=⟨k0,k1,k2,k3,k4,k5,k6,k7,k8,k9,k10,c0,c1,c2,PB.out⟩;clear k0 k1 k2 k3 k4 k5 k6 k7 k8 k9 k10 c0 c1 c2
    go_region_held3 (fun W=>W.cell? ⟨w.heap.size,0,none⟩=some (.slice fa fn fc)/\W.cell? ⟨w.heap.size,1,none⟩=some (.int .i64 S.d.c)/\W.cell? ⟨w.heap.size,2,none⟩=some (.bool S.d.a)/\W.cell? ⟨w.heap.size,3,none⟩=some (.int .i64 S.d.l)/\W.cell? ⟨w.heap.size,4,none⟩=some (.bool S.d.x)/\W.cell? ⟨w.heap.size,5,none⟩=some (.int .i64 S.v)/\W.cell? ⟨w.heap.size,6,none⟩=some (.slice (some ⟨gb,off,none⟩) gn gc)/\W.cell? ⟨w.heap.size,7,none⟩=some (.int .i64 S.x)/\W.cell? ⟨w.heap.size,8,none⟩=some (.int .i64 S.s)/\W.cell? ⟨w.heap.size,9,none⟩=some (.int .i64 S.z)/\W.cell? ⟨w.heap.size,10,none⟩=some (.int .u32 S.c)/\W.cell? ⟨gb,off+m*3,none⟩=some (.int .i64 gg.b)/\W.cell? ⟨gb,off+m*3+1,none⟩=some (.int .i64 gg.n)/\W.cell? ⟨gb,off+m*3+2,none⟩=some (.int .i64 gg.z)/\Below w.heap.size w W) (first | with_reducible assumption | with_reducible exact keepG (by assumption) (Below.refl _ _).drew | with_reducible exact keepG (by assumption) (by assumption)) (first | (go_at_call 40;refine (HAL.out _ gg (F0.out.keep PB.out.drew) HG0.out).mono ?_;rintro e w4 ⟨v,rfl,hr,b4⟩))
    rename_i qq;have QB4:=zid qq.2.2.2.2.2.2.2.2.2.2.2.2.2.2;have B4:=zid (show Below wr.heap.size wr w4 from (Below.refl _ wr).drew.trans b4);clear b4 qq ST;obtain ⟨rs,hrs⟩:∃rs,zc5 S.d gg.b=rs:=⟨_,rfl⟩;have HRS:=zid hrs;rw [hrs] at hr;clear hrs
    obtain ⟨ra,rc,rfl⟩:∃a c,v= .slice a rs.length c:=by obtain ⟨a,c,h,_⟩:=hr;exact ⟨a,c,h⟩
    have hrl:rs.length<=9223372036854775807:=by obtain ⟨_,_,_,h,_⟩:=hr;exact h
    have HRR:=zid hr;obtain ⟨rn,hrn⟩:∃n,rs.length=n:=⟨_,rfl⟩;have HRN:=zid hrn;rw [hrn] at HRR hrl ⊢;clear hr hrn;have R0:=zid (hkeep P0.out B4.out);have R1:=zid (hkeep P1.out B4.out);go_wp2_with fail
    go_loop [8] (fun k=>∃q:Nat,q<=rn/\k= .int .i64 q/\Hid (zfi rs o q)) (fun k=>rn-(intOf k).toNat)
    case atStart=>exact ⟨0,Nat.zero_le _,rfl,zid fun r hr=>by simp at hr⟩
    case round=>
     obtain ⟨q,hq,rfl,hni⟩:=hrel
     by_cases hql:q<rn
     · obtain ⟨rb,roff,rfl,e0,e1,e2⟩:=rec_at HRR.out hql
       obtain ⟨⟨xa,xt,xd⟩,hx⟩:∃r,rs.getD q Rp.zero=r:=⟨_,rfl⟩
       rw [hx] at e0 e1 e2;have HX:=zid hx;dsimp only at e0 e1 e2;clear hx
       by_cases heq:xa=o
       · subst heq
         have HR:=zid (show zb6 S xa=(⟨xa,xt,xd⟩,0) from by
          have h5:m<S.g.length:=by rw [<-HGL.out];exact hlt
          have h6:zc5 S.d (S.g.getD m Rt.zero).b=rs:=by rw [HGG.out];exact HRS.out
          have:=zc6.hit (f:=fun g=>zc5 S.d g.b) (k:=q) NO.out h5 (by rw [h6];exact hni.out) (by rw [h6,HRN.out];exact hql) (by rw [h6,HX.out]);rw [h6,HX.out] at this
          exact read_hit HL.out this)
         obtain ⟨y0,y1,y2⟩:=cells3 R1.out;obtain ⟨yf0,yf1,yf2⟩:=zb7 R1.out;have LY:=zid (show ∃Z,((w4.setCell ⟨w.heap.size+1,0,none⟩ (.int .i64 xa)).setCell ⟨w.heap.size+1,1,none⟩ (.int .i64 xt)).setCell ⟨w.heap.size+1,2,none⟩ (.string xd)=Z/\Z.heap[w.heap.size+1]?=some (.cells #[.int .i64 xa,.int .i64 xt,.string xd] 46 (0,0))/\Below w.heap.size w Z from ⟨_,rfl,zdu R1.out _ _ _,bel_st3 QB4.out (Nat.le_succ _) _ _ _⟩);go_wp2_with fail;obtain ⟨Z,hZ,Z1,Z2⟩:=LY.out;rw [hZ];obtain ⟨z0,z1,z2⟩:=cells3 Z1;refine bodyPost_ret (v:= .tuple #[.agg #[.int .i64 xa,.int .i64 xt,.string xd],.int .i64 0]) (by simp [results,Tryz.results13,go_sem,z0,z1,z2]) rfl ?_;exact ⟨by rw [HR.out];rfl,Z2⟩
       · have heq':=ne_b heq
         have NN:=zid (hni.out.next (by rw [HRN.out];exact hql) (by rw [HX.out];exact heq))
         clear heq;go_wp2_with fail
         go_round
         case rel=>exact ⟨q+1,by omega,by go_num,NN⟩
         case measure=>simp [intOf];omega
     · obtain rfl:q=rn:=by omega
       have NN:=zid (show zc6 (fun g=>zc5 S.d g.b) S.g o (m+1) from NO.out.next (by rw [<-HGL.out];exact hlt) (by
        rw [HGG.out,HRS.out,HRN.out]
        exact hni.out))
       go_wp2_with fail
       go_roundw
       case rel=>exact ⟨m+1,by omega,by go_num,NN.out,R0.out,R1.out,QB4.out⟩
       case measure=>simp [intOf];omega
  · obtain rfl:m=gn:=by omega
    have HR:=zid (show zb6 S o=(Rp.zero,11) from read_no HL.out (NO.out.all (by rw [<-HGL.out];exact Nat.le_refl _)))
    obtain ⟨y0,y1,y2⟩:=cells3 P1.out;obtain ⟨yf0,yf1,yf2⟩:=zb7 P1.out;have LY:=zid (show ∃Z,((wr.setCell ⟨w.heap.size+1,0,none⟩ (.int .i64 0)).setCell ⟨w.heap.size+1,1,none⟩ (.int .i64 0)).setCell ⟨w.heap.size+1,2,none⟩ (.string ⟨#[]⟩)=Z/\Z.heap[w.heap.size+1]?=some (.cells #[.int .i64 0,.int .i64 0,.string ⟨#[]⟩] 46 (0,0))/\Below w.heap.size w Z from ⟨_,rfl,zdu P1.out _ _ _,bel_st3 PB.out (Nat.le_succ _) _ _ _⟩);clear q0 q1 hb;go_wp2_with fail;obtain ⟨Z,hZ,Z1,Z2⟩:=LY.out;rw [hZ];obtain ⟨z0,z1,z2⟩:=cells3 Z1;refine bodyPost_ret (v:= .tuple #[.agg #[.int .i64 0,.int .i64 0,.string ⟨#[]⟩],.int .i64 11]) (by simp [results,Tryz.results13,go_sem,z0,z1,z2]) rfl ?_;exact ⟨by rw [HR.out];rfl,Z2⟩
theorem zit (S:St) (o:Int):RecOk (zb6 S o).1/\(zb6 S o).1.d.size<=64:=by
 have hz:RecOk Rp.zero/\Rp.zero.d.size<=64:=⟨⟨by decide,by decide,by decide,by decide,by decide⟩,by decide⟩;unfold zb6
 split
 · exact hz
 · split
   · rename_i r hr
     have hm:=List.mem_of_find?_eq_some hr
     rw [List.mem_flatMap] at hm;obtain ⟨g,_,hm⟩:=hm;unfold zc5 at hm;obtain ⟨ps,k,e,h1,h2,_⟩:=Gp.full_good ((dat S.d (segN g.b)).getD []) g.b;rw [h1,List.mem_map] at hm;obtain ⟨p,hp,rfl⟩:=hm;have:=h2.ok p hp;exact ⟨RecOk.of this,this.2.2.2.2⟩
   · exact hz
end Sto
section
open Go.RowKit Go.ChangeShapes Go.WideShapes Go.Deep Go.Joins
def zaY (w:World) (v:Value) (l:List Fp.Pr):Prop:=
 ∃a cap,v= .slice a l.length cap/\l.length<=maxLen/\(∀p∈l,p.v.size<=9223372036854775807)/\
  (l=[]\/ ∃b off,a=some ⟨b,off,none⟩/\∀i,i<l.length->
   w.cell? ⟨b,off+i*2,none⟩=some (.int .u8 ((l.getD i Fp.zero).k.toNat:Int))/\w.cell? ⟨b,off+i*2+1,none⟩=some (.string (l.getD i Fp.zero).v))
theorem zaY.below {B:Nat} {w w':World} {v:Value} {l:List Fp.Pr} (h:zaY w v l) (hb:Below B w w') (hB:w.heap.size<=B):zaY w' v l:=by
 obtain ⟨a,cap,rfl,h1,h2,h3⟩:=h;refine ⟨a,cap,rfl,h1,h2,?_⟩
 rcases h3 with h3 | ⟨b,off,rfl,h4⟩
 · exact .inl h3
 · refine .inr ⟨b,off,rfl,fun i hi=>?_⟩
   obtain ⟨c0,c1⟩:=h4 i hi
   have hl:=Nat.lt_of_lt_of_le (block_lt_of_cell c0) hB;exact ⟨(hb.cell (p:=⟨b,off+i*2,none⟩) hl).trans c0,(hb.cell (p:=⟨b,off+i*2+1,none⟩) hl).trans c1⟩
theorem zaY.nil (w:World) (a:Option Addr) (cap:Nat):zaY w (.slice a 0 cap) []:=⟨a,cap,rfl,by simp,by simp,.inl rfl⟩
section
variable {H:Type} {enc:TypeId×Value->H} {w:World} {base:Nat} {spare:Nat->Bool} {held:Bool}
end
def zbg (l:List Fp.Pr):List Value:=l.flatMap fun p=>[.int .u8 (p.k.toNat:Int),.string p.v]
theorem zeo (p:Fp.Pr) (l:List Fp.Pr):zbg (p::l)= .int .u8 (p.k.toNat:Int):: .string p.v::zbg l:=rfl
theorem zfy (a b:List Fp.Pr):zbg (a++b)=zbg a++zbg b:=by unfold zbg;simp
theorem zeW (l:List Fp.Pr):(zbg l).length=l.length*2:=by
 induction l with
 | nil=>rfl
 | cons p l ih=>rw [zeo];simp;omega
theorem zhO (l:List Fp.Pr) (p:Fp.Pr):zbg (l++[p])=zbg l++[.int .u8 (p.k.toNat:Int),.string p.v]:=by rw [zfy];rfl
theorem zjy (l:List Fp.Pr):∀u∈zbg l,u.oneCell'=true:=by
 intro u hu;unfold zbg at hu;rw [List.mem_flatMap] at hu;obtain ⟨p,_,h⟩:=hu;simp at h
 rcases h with rfl | rfl<;>rfl
theorem zeX (l:List Fp.Pr):∀i,i<l.length->(zbg l)[i*2]?=some (.int .u8 ((l.getD i Fp.zero).k.toNat:Int))/\(zbg l)[i*2+1]?=some (.string (l.getD i Fp.zero).v):=by
 induction l with
 | nil=>intro i hi;simp at hi
 | cons p l ih=>
  intro i hi;rw [zeo]
  cases i with
  | zero=>exact ⟨rfl,rfl⟩
  | succ i=>
   have h:=ih i (by simpa using hi);rw [show (i+1)*2=i*2+2 from by omega]
   simpa using h
theorem zdG:(Tryz.prog.info? 86).map (fun i=>(i.zero,i.size,i.bytes))=some (some (.agg #[.int .u8 0,.string ByteArray.empty]),2,24):=by kernel_rfl
def Own (w:World) (base:Nat) (v:Value) (l:List Fp.Pr):Prop:=w.ownsRow base 86 2 v l.length (zbg l)
theorem Own.nil (w:World) (base:Nat):Own w base (.slice none 0 0) []:=World.ownsRow_nil _ _ _ _
theorem Own.below {w w':World} {base:Nat} {v:Value} {l:List Fp.Pr} (h:Own w base v l) (b:Below w.heap.size w w'):Own w' base v l:=zau h b
theorem Own.is {w:World} {base:Nat} {v:Value} {l:List Fp.Pr} (h:Own w base v l) (hm:l.length<=maxLen) (hb:∀p∈l,p.v.size<=9223372036854775807):zaY w v l:=by
 rcases h.2 with ⟨rfl,h0⟩ | ⟨g,cap,cur,rfl,h1⟩
 · have:l=[]:=by simpa using h0
   subst this
   exact zaY.nil w none 0
 · refine ⟨some ⟨g,0,none⟩,cap,rfl,hm,hb,.inr ⟨g,0,rfl,fun i hi=>?_⟩⟩
   obtain ⟨c0,c1⟩:=zeX l i hi
   have k0:=World.ownsRow.cells h (g:=g) rfl _ _ c0;have k1:=World.ownsRow.cells h (g:=g) rfl _ _ c1;rw [zak] at k0 k1;exact ⟨k0,k1⟩
end
section
open Go.RowKit Go.Lib
def zbo (w:World) (base:Nat) (l:List Fp.Pr) (e:Ending) (w':World):Prop:=∃v,e= .returned v/\Own w' base v l/\Below base w w'
theorem zbo.mk {w w':World} {base:Nat} {l:List Fp.Pr} {v:Value} (h:Own w' base v l) (hb:Below base w w'):zbo w base l (.returned v) w':=⟨v,rfl,h,hb⟩
theorem zfD:Tryz.prog.follows Departure.mixedOrders=true:=by kernel_rfl
end
section
open Go.RowKit
theorem zbK {l:List Fp.Pr} {k:Nat} (h:k<l.length):l.getD k Fp.zero=l[k]:=by simp [List.getD_eq_getElem?_getD,h]
theorem zlc (s:ByteArray) (h:0<s.size):Fp.key s=s[0]:=by
 unfold Fp.key;rw [List.headD_eq_head?_getD,List.head?_eq_getElem?,Array.getElem?_toList,Array.getElem?_eq_getElem (by exact h)]
 rfl
theorem ziO {s:ByteArray} (h:0<s.size):s.toList.isEmpty=false:=by
 rw [Lib.toList_data];have e:s.data.toList.length=s.size:=rfl
 cases hd:s.data.toList with
 | nil=>rw [hd] at e;simp at e;omega
 | cons a b=>rfl
theorem zlu {s:ByteArray} (h:s.size=0):s.toList.isEmpty=true:=by
 rw [Lib.toList_data];have e:s.data.toList.length=s.size:=rfl
 cases hd:s.data.toList with
 | nil=>rfl
 | cons a b=>rw [hd] at e;simp at e;omega
theorem zkL {w:World} {b off:Nat} {l:List Fp.Pr} (h:∀i,i<l.length->w.cell? ⟨b,off+i*2,none⟩=some (.int .u8 ((l.getD i Fp.zero).k.toNat:Int))/\w.cell? ⟨b,off+i*2+1,none⟩=some (.string (l.getD i Fp.zero).v)):
 ∀j u,(zbg l)[j]?=some u->w.cell? ((⟨b,off,none⟩:Addr).add j)=some u:=by
 intro j u hj;have hjl:=(List.getElem?_eq_some_iff.1 hj).1;rw [zeW] at hjl;rw [zak];obtain ⟨c0,c1⟩:=h (j/2) (by omega);obtain ⟨d0,d1⟩:=zeX l (j/2) (by omega)
 rcases Nat.mod_two_eq_zero_or_one j with hm | hm
 · rw [show off+j=off+j/2*2 from by omega,c0, <-d0,show j/2*2=j from by omega,hj]
 · rw [show off+j=off+j/2*2+1 from by omega,c1, <-d1,show j/2*2+1=j from by omega,hj]
end
end Go.Proofs.YtgmppfpllogdcaaGreat

/-
  Parts of what the laws of this seat stand on:TrmTrim.
-/
import Derived.Test.YtgmppfpllogdcaaGreatBi1
import Derived.Test.YtgmppfpllogdcaaGreatBi13
import Derived.Test.YtgmppfpllogdcaaGreatBi20
import Derived.Test.YtgmppfpllogdcaaGreatBi22
import Derived.Test.YtgmppfpllogdcaaGreatBi33
import Derived.Test.YtgmppfpllogdcaaGreatBi34
set_option maxRecDepth 100000
set_option maxHeartbeats 6400000
namespace Go.Proofs.YtgmppfpllogdcaaGreat
namespace Trm
open Go.RowKit So Dsk Rts Sto
theorem Ms.start {w:World} {fv gv:Value} {lf:List Dp.Fl} {lg:List Rt.Sg} (hf:IsL FL w fv lf) (hg:IsL Rts.SL w gv lg):Ms w w.heap.size fv gv [] [(fv,lf)] [(gv,lg)] w:=
 ⟨fun p hp=>(by cases hp),fun p hp=>by
  rw [List.mem_singleton] at hp;subst hp
  exact ⟨hf,fun q hq=>(by cases hq),fun _ _ a _=>a⟩,fun p hp=>by
  rw [List.mem_singleton] at hp;subst hp
  exact ⟨hg,fun q hq=>(by cases hq),fun _ _ _ a=>a⟩,Nat.le_refl _,Below.refl _ _⟩
def stC (fv gv:Value) (S:St):Obj:= .cells #[fv,.int .i64 S.d.c,.bool S.d.a,.int .i64 S.d.l,.bool S.d.x,.int .i64 S.v,gv,.int .i64 S.x,.int .i64 S.s,.int .i64 S.z,.int .u32 S.c] 31
def zeC:Obj:= .cells #[.slice none 0 0,.int .i64 0,.bool false,.int .i64 0,.bool false,.int .i64 0,.slice none 0 0,.int .i64 0,.int .i64 0,.int .i64 0,.int .u32 0] 31
def dkC (fv:Value) (D:Dp.Dk):Obj:= .cells #[fv,.int .i64 D.c,.bool D.a,.int .i64 D.l,.bool D.x] 27
def DB (w:World) (fv gv:Value) (S:St) (t:Nat) (D:Dp.Dk) (W:World):Prop:=∃a n c,Ms w w.heap.size fv gv [(t,dkC (.slice a n c) D),(w.heap.size+1,zeC),(w.heap.size,stC fv gv S)] [(.slice a n c,D.f),(fv,S.d.f)] [(gv,S.g)] W
theorem three {t t1 t2:Nat} {o o' o1 o2:Obj} (h1:t1≠t) (h2:t2≠t):∀q∈[(t,o'),(t1,o1),(t2,o2)],q=(t,o')\/(q∈[(t,o),(t1,o1),(t2,o2)]/\q.1≠t):=fun q hq=>by
 rcases List.mem_cons.1 hq with rfl | hq
 · exact .inl rfl
 rcases List.mem_cons.1 hq with rfl | hq
 · exact .inr ⟨mcm mcs,h1⟩
 · rw [List.mem_singleton] at hq
   subst hq
   exact .inr ⟨mcm (mcm mcs),h2⟩
theorem four {t t1 t2 t3:Nat} {o o' o1 o2 o3:Obj} (h1:t1≠t) (h2:t2≠t) (h3:t3≠t):∀q∈[(t,o'),(t1,o1),(t2,o2),(t3,o3)],q=(t,o')\/(q∈[(t,o),(t1,o1),(t2,o2),(t3,o3)]/\q.1≠t):=fun q hq=>by
 rcases List.mem_cons.1 hq with rfl | hq
 · exact .inl rfl
 refine .inr ⟨mcm hq,?_⟩
 rcases List.mem_cons.1 hq with rfl | hq
 · exact h1
 rcases List.mem_cons.1 hq with rfl | hq
 · exact h2
 · rw [List.mem_singleton] at hq
   subst hq
   exact h3
theorem bd_undo {D:Dp.Dk} {k:Nat} (h:Bd D k) (e:Int) (n:ByteArray):Bd (Lg.undo (D,e) n).1 (k+1):=by
 unfold Lg.undo
 split
 · exact zam h n
 · exact h.mono (by omega)
theorem rof13_any (s:ByteArray) (w:World) (hs:s.size<=3000):Calls Tryz.prog 31 #[.string s] w fun e w'=>e= .returned (.int .u32 (Cp.sum 0 s.data.toList:Nat))/\w=w':=by
 have C:=zid (zhC 0 s w (by decide) (by unfold maxLen;omega))
 go_enter Tryz.func31,Tryz.ntmps31
 go_wp2_with fail;refine C.out.mono ?_;rintro e w1 ⟨rfl,rfl⟩;go_wp2_with fail;go_ret;exact ⟨rfl,rfl⟩
theorem DB.lay {w W W':World} {fv gv:Value} {S:St} {t:Nat} {D D':Dp.Dk} {a:Option Addr} {n c:Nat} {a':Option Addr} {n' c':Nat} (ht:w.heap.size+1<t)
 (h:Ms w w.heap.size fv gv [(t,dkC (.slice a n c) D),(w.heap.size+1,zeC),(w.heap.size,stC fv gv S)] [(.slice a n c,D.f),(fv,S.d.f)] [(gv,S.g)] W) (k:DkS W (.slice a n c) D' (.slice a' n' c') W'):
 ∃Z,((((W'.setCell ⟨t,0,none⟩ (.slice a' n' c')).setCell ⟨t,1,none⟩ (.int .i64 D'.c)).setCell ⟨t,2,none⟩ (.bool D'.a)).setCell ⟨t,3,none⟩ (.int .i64 D'.l)).setCell ⟨t,4,none⟩ (.bool D'.x)=Z/\
  Ms w w.heap.size fv gv [(t,dkC (.slice a' n' c') D'),(w.heap.size+1,zeC),(w.heap.size,stC fv gv S)] [(.slice a' n' c',D'.f),(fv,S.d.f)] [(gv,S.g)] Z:=by
 obtain ⟨Z,h1,h2⟩:=(h.call mcs k).lay5 (t:=t) (cs':=[(t,dkC (.slice a' n' c') D'),(w.heap.size+1,zeC),(w.heap.size,stC fv gv S)]) mcs (.slice a' n' c') (.int .i64 D'.c) (.bool D'.a) (.int .i64 D'.l) (.bool D'.x) (three (by omega) (by omega))
 exact ⟨Z,h1,h2.sub (fun _ h=>h) (fun p hp=>by
  rcases List.mem_cons.1 hp with rfl | hp
  · exact mcs
  · exact mcm (mcm hp)) (fun _ h=>h)⟩
theorem DX.lay {w W W':World} {fv gv gx:Value} {S X:St} {x t:Nat} {D D':Dp.Dk} {a:Option Addr} {n c:Nat} {a':Option Addr} {n' c':Nat} (ht:w.heap.size+1<t) (hx:t<x)
 (h:Ms w w.heap.size fv gv [(t,dkC (.slice a n c) D),(x,stC fv gx X),(w.heap.size+1,zeC),(w.heap.size,stC fv gv S)] [(.slice a n c,D.f),(fv,S.d.f)] [(gx,X.g),(gv,S.g)] W) (k:DkS W (.slice a n c) D' (.slice a' n' c') W'):
 ∃Z,((((W'.setCell ⟨t,0,none⟩ (.slice a' n' c')).setCell ⟨t,1,none⟩ (.int .i64 D'.c)).setCell ⟨t,2,none⟩ (.bool D'.a)).setCell ⟨t,3,none⟩ (.int .i64 D'.l)).setCell ⟨t,4,none⟩ (.bool D'.x)=Z/\
  Ms w w.heap.size fv gv [(t,dkC (.slice a' n' c') D'),(x,stC fv gx X),(w.heap.size+1,zeC),(w.heap.size,stC fv gv S)] [(.slice a' n' c',D'.f),(fv,S.d.f)] [(gx,X.g),(gv,S.g)] Z:=by
 obtain ⟨Z,h1,h2⟩:=(h.call mcs k).lay5 (t:=t) (cs':=[(t,dkC (.slice a' n' c') D'),(x,stC fv gx X),(w.heap.size+1,zeC),(w.heap.size,stC fv gv S)]) mcs (.slice a' n' c') (.int .i64 D'.c) (.bool D'.a) (.int .i64 D'.l) (.bool D'.x) (four (by omega) (by omega) (by omega))
 exact ⟨Z,h1,h2.sub (fun _ h=>h) (fun p hp=>by
  rcases List.mem_cons.1 hp with rfl | hp
  · exact mcs
  · exact mcm (mcm hp)) (fun _ h=>h)⟩
theorem swap2 {α:Type} {a b:α} {l:List α}:∀p∈a::b::l,p∈b::a::l:=fun p hp=>by
 rcases List.mem_cons.1 hp with rfl | hp
 · exact mcm mcs
 rcases List.mem_cons.1 hp with rfl | hp
 · exact mcs
 · exact mcm (mcm hp)
def DX (w:World) (fv gv gx:Value) (S X:St) (x t:Nat) (D:Dp.Dk) (W:World):Prop:=∃a n c,Ms w w.heap.size fv gv [(t,dkC (.slice a n c) D),(x,stC fv gx X),(w.heap.size+1,zeC),(w.heap.size,stC fv gv S)] [(.slice a n c,D.f),(fv,S.d.f)] [(gx,X.g),(gv,S.g)] W
theorem zht (fa ga:Option Addr) (fn fc gn gc:Nat) (S:St) (keep count:Int) (p:Nat) (w:World) (k:Nat) (hv:IsL FL w (.slice fa fn fc) S.d.f) (hg:IsL Rts.SL w (.slice ga gn gc) S.g) (hn:S.g≠[]) (hB:Stb S) (hS:Bd S.d k) (hk:k<=60000) (hver:S.v<1152921504606846976) (hM:Rt.May S.g) (hp:Rt.IsPick S.g keep count p)
 (hst:fewP (Lg.stateT S (Lg.trimF S p))=true) (hlen:(Lg.trimB S p).length<=3000):
 Calls Tryz.prog 23 #[zag (.slice fa fn fc) (.slice ga gn gc) S,.int .i64 keep,.int .i64 count] w (zdW w (.slice fa fn fc) (.slice ga gn gc) (Lg.trimK S p)):=by
 have hroom:=hg.room;have hgl:=hg.len.1
 have hpl:p<gn:=by rw [hgl];exact hp.lt.2 (List.length_pos_iff.2 hn)
 have hpb:p<=1000:=by have:=hB.n;omega
 have hgn:gn<=1000:=by have:=hB.n;omega
 have hFb:0<=Lg.trimF S p/\Lg.trimF S p<=1152921504606846976:=by
  unfold Lg.trimF
  have hpl':p<S.g.length:=by omega
  rw [zao hpl'];exact (hB.g _ (List.getElem_mem hpl')).1
 have M0:=(((Ms.start hv hg).alloc #[.slice fa fn fc,.int .i64 S.d.c,.bool S.d.a,.int .i64 S.d.l,.bool S.d.x,.int .i64 S.v,.slice ga gn gc,.int .i64 S.x,.int .i64 S.s,.int .i64 S.z,.int .u32 S.c] 31).alloc #[.slice none 0 0,.int .i64 0,.bool false,.int .i64 0,.bool false,.int .i64 0,.slice none 0 0,.int .i64 0,.int .i64 0,.int .i64 0,.int .u32 0] 31);rw [World.size_alloc] at M0;have MM:=zid M0;have RP:=zid fun (W:World) (h:IsL Rts.SL W (.slice ga gn gc) S.g)=>zhB ga gn gc S.g keep count p W h hroom hM hp;have SN:=zid (show ∀W:World,Calls Tryz.prog 37 #[.int .i64 (Lg.trimF S p)] W fun e w'=>e= .returned (.string (Lg.snapN (Lg.trimF S p)))/\Below W.heap.size W w' from fun W=>zcf (Lg.trimF S p) W (by omega));have ST:=zid fun (W:World) (h1:IsL FL W (.slice fa fn fc) S.d.f) (h2:IsL Rts.SL W (.slice ga gn gc) S.g)=>zbl fa ga fn fc gn gc S (Lg.trimF S p) W h1 h2 hn hB hFb.2;have BY:=zid (show ∀(W:World) (v:Value),zaY W v (Lg.stateT S (Lg.trimF S p))->Calls Tryz.prog 56 #[v] W fun e w'=>e= .returned (.string ⟨(Lg.trimB S p).toArray⟩)/\Below W.heap.size W w' from fun W v h=>zhG v _ W h hst);have HT1:=zid (show Lg.trim1 S p=if (Dp.create S.d (Lg.snapN (Lg.trimF S p))).2≠0 then Dp.create S.d (Lg.snapN (Lg.trimF S p)) else Lg.undo (Dp.append (Dp.create S.d (Lg.snapN (Lg.trimF S p))).1 (Lg.snapN (Lg.trimF S p)) ⟨(Lg.trimB S p).toArray⟩) (Lg.snapN (Lg.trimF S p)) from rfl);have HT2:=zid (show Lg.trim2 S p=if (Lg.trim1 S p).2≠0 then Lg.trim1 S p else Dp.sync (Lg.trim1 S p).1 (Lg.snapN (Lg.trimF S p)) from rfl)
 have HTX:=zid (show Lg.trimX S p={S with v:=S.v+1,g:=S.g.drop p,z:=((Lg.trimB S p).length:Int),c:=(Cp.sum 0 (Lg.trimB S p):Int)} from rfl)
 have OF:=zid (show ∀W:World,Calls Tryz.prog 31 #[.string ⟨(Lg.trimB S p).toArray⟩] W fun e w'=>e= .returned (.int .u32 (Cp.sum 0 (Lg.trimB S p):Nat))/\W=w' from fun W=>rof13_any _ W (by show (Lg.trimB S p).toArray.size<=3000;rw [List.size_toArray];exact hlen));have HSX:=zid (show Stb (Lg.trimX S p) from ⟨hB.d,⟨by have:=hB.v;show 0<=S.v+1;omega,by show S.v+1<=_;omega⟩,by show (S.g.drop p).length<=1000;rw [List.length_drop];have:=hB.n;omega,fun g hg'=>hB.g g (List.mem_of_mem_drop hg'),hB.x,hB.s,⟨Int.natCast_nonneg _,by show ((Lg.trimB S p).length:Int)<=_;omega⟩,⟨Int.natCast_nonneg _,by have:=Lg.sum_lt (Lg.trimB S p);show (Cp.sum 0 (Lg.trimB S p):Int)<_;omega⟩⟩);have HT3:=zid (show Lg.trim3 S p=if (Lg.trim2 S p).2≠0 then Lg.trim2 S p else Lg.undo (swap (Lg.trim2 S p).1 (man (Lg.trimX S p))) (Lg.snapN (Lg.trimF S p)) from rfl)
 have HTK:=zid (show p≠0->Lg.trimK S p=if (Lg.trim3 S p).2≠0 then ({S with d:=(Lg.trim3 S p).1},(Lg.trim3 S p).2) else ({Lg.trimX S p with d:=(Lg.trim4 S p (Lg.trim3 S p).1).1},(Lg.trim4 S p (Lg.trim3 S p).1).2) from fun h=>if_neg h)
 have HT4:=zid fun D:Dp.Dk=>(show Lg.trim4 S p D=if (Lg.delSegs D (S.g.take p)).2=0/\0<floor S then Dp.delete (Lg.delSegs D (S.g.take p)).1 (Lg.snapN (floor S)) else Lg.delSegs D (S.g.take p) from rfl);have HN14:=zid (show (Lg.snapN (Lg.trimF S p)).size<=3000 from by have:(Lg.snapN (Lg.trimF S p)).size<=14:=Np.name_short 116 _;omega);have HSG:=zid fun (W:World) (h:IsL Rts.SL W (.slice ga gn gc) S.g)=>zce h hpl;have CR:=zid fun (W:World) (h:IsL FL W (.slice fa fn fc) S.d.f)=>zck hS (by omega) (Lg.snapN (Lg.trimF S p)) (by have:(Lg.snapN (Lg.trimF S p)).size<=14:=Np.name_short 116 _;omega) h;have HLEN:=zid hlen;have HBD:=zid hS;have HSB:=zid hB;have HNE:=zid hn;have HZ0:=zid (show p=0->Lg.trimK S p=(S,0) from fun h=>if_pos h);obtain ⟨⟨k0,k1,k2,k3,k4⟩,k5,k6,k7,k8,k9,k10⟩:=zab (M0.at_ (t:=w.heap.size) (mcm mcs));obtain ⟨⟨q0,q1,q2,q3,q4⟩,q5,q6,q7,q8,q9,q10⟩:=zab (M0.at_ (t:=w.heap.size+1) mcs);have qf:=zaf (M0.at_ (t:=w.heap.size+1) mcs);have HGL:=zid hgl;clear M0 hgl hv hg hn hB hS hp hst hlen hM;unfold zag at ST ⊢;unfold zac at CR
 go_enter Tryz.func23,Tryz.ntmps23
 go_wp2_with fail;generalize World.alloc (World.alloc w _) _=W0 at MM k0 k1 k2 k3 k4 k5 k6 k7 k8 k9 k10 q0 q1 q2 q3 q4 q5 q6 q7 q8 q9 q10 qf ⊢;refine (RP.out W0 (MM.out.sl mcs)).mono ?_;rintro e w1 ⟨rfl,rfl⟩
 by_cases hp0:p=0
 · have e0:((p:Int)==0)=true:=by simpa using hp0
   have HR:=zid (HZ0.out hp0)
   clear hp0;go_wp2_with fail;obtain ⟨Z,hZ,Z1⟩:=MM.out.lay11 (t:=w.heap.size+1) (cs':=[(w.heap.size+1,stC (.slice fa fn fc) (.slice ga gn gc) S)]) mcs (.slice fa fn fc) (.int .i64 S.d.c) (.bool S.d.a) (.int .i64 S.d.l) (.bool S.d.x) (.int .i64 S.v) (.slice ga gn gc) (.int .i64 S.x) (.int .i64 S.s) (.int .i64 S.z) (.int .u32 S.c) (fun p hp=> .inl (List.mem_singleton.1 hp));rw [hZ];obtain ⟨⟨z0,z1,z2,z3,z4⟩,z5,z6,z7,z8,z9,z10⟩:=zab (Z1.at_ (t:=w.heap.size+1) mcs);rw [HR.out];refine bodyPost_ret (v:= .tuple #[.agg #[.slice fa fn fc,.int .i64 S.d.c,.bool S.d.a,.int .i64 S.d.l,.bool S.d.x,.int .i64 S.v,.slice ga gn gc,.int .i64 S.x,.int .i64 S.s,.int .i64 S.z,.int .u32 S.c],.int .i64 0]) (by simp [results,Tryz.results23,go_sem,z0,z1,z2,z3,z4,z5,z6,z7,z8,z9,z10]) rfl ?_;exact ⟨_,_,_,_,_,_,rfl,Z1.sts mcs mcs⟩
 · have e0:((p:Int)==0)=false:=by simpa using hp0
   have HP0:=zid hp0
   obtain ⟨sb,so,rfl,s0',s1',s2'⟩:=HSG.out W0 (MM.out.sl mcs);have s0:W0.cell? ⟨sb,so+p*3,none⟩=some (.int .i64 (Lg.trimF S p)):=s0';clear s0' s1' s2' HSG;obtain ⟨⟨D1,E1⟩,hR1⟩:∃R,Dp.create S.d (Lg.snapN (Lg.trimF S p))=R:=⟨_,rfl⟩;have BD1:=zas HBD.out (Lg.snapN (Lg.trimF S p));rw [hR1] at CR HT1 BD1;dsimp only at HT1 BD1;replace BD1:=zid BD1;clear hR1 hp0 HZ0;generalize Lg.snapN (Lg.trimF S p)=N at*;generalize Lg.stateT S (Lg.trimF S p)=L at*;generalize Lg.trimB S p=B at*;generalize Lg.trimF S p=F at*;go_wp2_with fail;refine (SN.out _).mono ?_;rintro e w1 ⟨rfl,b1⟩;have M1:=MM.out.keep b1;have MM1:=zid M1;clear k0 k1 k2 k3 k4 k5 k6 k7 k8 k9 k10 q0 q1 q2 q3 q4 q5 q6 q7 q8 q9 q10 qf s0 b1;obtain ⟨⟨k0,k1,k2,k3,k4⟩,k5,k6,k7,k8,k9,k10⟩:=zab (M1.at_ (t:=w.heap.size) (mcm mcs));clear M1;go_wp2_with fail;refine (ST.out _ (MM1.out.fl mcs) (MM1.out.sl mcs)).mono ?_;rintro e w2 ⟨pa,pn,pc,rfl,hpr,b2⟩;have MM2:=zid (MM1.out.keep b2);have HPR:=zid hpr;clear k0 k1 k2 k3 k4 k5 k6 k7 k8 k9 k10 b2 hpr;go_wp2_with fail;refine (BY.out _ _ HPR.out).mono ?_;rintro e w3 ⟨rfl,b3⟩;have M3:=MM2.out.keep b3;have MM3:=zid M3;clear b3;obtain ⟨⟨k0,k1,k2,k3,k4⟩,k5,k6,k7,k8,k9,k10⟩:=zab (M3.at_ (t:=w.heap.size) (mcm mcs));clear M3;go_wp2_with fail;refine (CR.out _ (MM3.out.fl mcs)).mono ?_;rintro e w4 ⟨a4,n4,c4,rfl,k4'⟩;unfold zac;dsimp only at k4' ⊢;have M4:=(MM3.out.call mcs k4').alloc #[.slice a4 n4 c4,.int .i64 D1.c,.bool D1.a,.int .i64 D1.l,.bool D1.x] 27;have MM4:=zid (show DB w (.slice fa fn fc) (.slice (some ⟨sb,so,none⟩) gn gc) S w4.heap.size D1 (w4.alloc (.cells #[.slice a4 n4 c4,.int .i64 D1.c,.bool D1.a,.int .i64 D1.l,.bool D1.x] 27)) from ⟨a4,n4,c4,M4⟩);have htt:w.heap.size+1<w4.heap.size:=Nat.lt_of_lt_of_le (MM3.out.lt (t:=w.heap.size+1) mcs) k4'.w.size;clear k0 k1 k2 k3 k4 k5 k6 k7 k8 k9 k10 k4' M4;go_upto_region 8 with (fail);generalize w4.alloc _=W4 at MM4 ⊢;generalize w4.heap.size=t at MM4 htt ⊢
   go_upto_if 44 with (fail)
   go_cut [13] (fun e we=>∃D2 E2,e= .int .i64 E2/\Hid (Lg.trim1 S p=(D2,E2))/\Hid (DB w (.slice fa fn fc) (.slice (some ⟨sb,so,none⟩) gn gc) S t D2 we)/\Hid (Bd D2 (k+3)))
   case first=>
    by_cases hE1:E1=0
    · subst hE1
      obtain ⟨a,n,c,M⟩:=MM4.out
      have HM:=zid M;obtain ⟨⟨D2,E2⟩,hR2⟩:∃R,Dp.append D1 N ⟨B.toArray⟩=R:=⟨_,rfl⟩
      have hbs:(⟨B.toArray⟩:ByteArray).size<=3000:=by show B.toArray.size<=3000;rw [List.size_toArray];exact HLEN.out
      have AP:=fun (W:World) (h:IsL FL W (.slice a n c) D1.f)=>zdq BD1.out (by omega) N ⟨B.toArray⟩ hbs h;have BD2:=zbb BD1.out N hbs;rw [hR2] at AP BD2;obtain ⟨⟨D3,E3⟩,hR3⟩:∃R,Lg.undo (D2,E2) N=R:=⟨_,rfl⟩;have BD3:=bd_undo BD2 E2 N;have UN:=fun (a5:Option Addr) (n5 c5:Nat) (W:World) (h:IsL FL W (.slice a5 n5 c5) D2.f)=>zec a5 n5 c5 D2 E2 N W _ h BD2 (by omega);rw [hR3] at BD3 UN;have HR:=zid (show Lg.trim1 S p=(D3,E3) from by rw [HT1.out,if_neg (by decide),hR2,hR3]);replace BD3:=zid BD3;unfold zac at AP UN;replace AP:=zid AP;replace UN:=zid UN;obtain ⟨k0,k1,k2,k3,k4⟩:=zaa (M.at_ (t:=t) mcs);clear hR2 hR3 hbs BD2 M MM4 HT1;go_wp2_with fail;refine (AP.out _ (HM.out.fl mcs)).mono ?_;rintro e w5 ⟨a5,n5,c5,rfl,k5'⟩;unfold zac;dsimp only at k5' ⊢;have LY:=zid (DB.lay htt HM.out k5');obtain ⟨x0,x1,x2,x3,x4⟩:=zaa (hkeep (HM.out.at_ (t:=t) mcs) k5'.w);obtain ⟨xf0,xf1,xf2,xf3,xf4⟩:=zad (hkeep (HM.out.at_ (t:=t) mcs) k5'.w);clear k0 k1 k2 k3 k4 k5';go_upto_region 10 with (fail);obtain ⟨Z,hZ,MZ⟩:=LY.out;rw [hZ];have HMZ:=zid MZ;obtain ⟨k0,k1,k2,k3,k4⟩:=zaa (MZ.at_ (t:=t) mcs);clear hZ LY MZ x0 x1 x2 x3 x4 xf0 xf1 xf2 xf3 xf4;go_wp2_with fail;refine (UN.out _ _ _ _ (HMZ.out.fl mcs)).mono ?_;rintro e w6 ⟨a6,n6,c6,rfl,k6'⟩;unfold zac;dsimp only at k6' ⊢;have LY2:=zid (DB.lay htt HMZ.out k6');obtain ⟨x0,x1,x2,x3,x4⟩:=zaa (hkeep (HMZ.out.at_ (t:=t) mcs) k6'.w);obtain ⟨xf0,xf1,xf2,xf3,xf4⟩:=zad (hkeep (HMZ.out.at_ (t:=t) mcs) k6'.w);clear k0 k1 k2 k3 k4 k6';go_wp2_with fail;obtain ⟨Z2,hZ2,MZ2⟩:=LY2.out;rw [hZ2];go_meet
      case rel=>exact ⟨D3,E3,rfl,HR,zid ⟨_,_,_,MZ2⟩,BD3⟩
    · have e1:(E1==0)=false:=by simpa using hE1
      have HR:=zid (show Lg.trim1 S p=(D1,E1) from by rw [HT1.out,if_pos hE1])
      clear hE1 HT1;go_wp2_with fail;go_meet
      case rel=>exact ⟨D1,E1,rfl,HR,MM4,zid (BD1.out.mono (by omega))⟩
   case rest=>
    obtain ⟨D2,E2,rfl,HR1,MM5,BD2⟩:=hcut;clear HT1 BD1 MM4
    go_upto_if 60 with (fail)
    go_cut [13] (fun e we=>∃D3 E3,e= .int .i64 E3/\Hid (Lg.trim2 S p=(D3,E3))/\Hid (DB w (.slice fa fn fc) (.slice (some ⟨sb,so,none⟩) gn gc) S t D3 we)/\Hid (Bd D3 (k+4)))
    case first=>
     by_cases hE2:E2=0
     · subst hE2
       obtain ⟨a,n,c,M⟩:=MM5.out
       have HM:=zid M;obtain ⟨⟨D3,E3⟩,hR2⟩:∃R,Dp.sync D2 N=R:=⟨_,rfl⟩;have AP:=fun (W:World) (h:IsL FL W (.slice a n c) D2.f)=>zed BD2.out (by omega) N h;have BD3:=zbs BD2.out N;rw [hR2] at AP BD3;have HR:=zid (show Lg.trim2 S p=(D3,E3) from by rw [HT2.out,HR1.out,if_neg (by show ¬(0:Int)≠0;decide),hR2]);replace BD3:=zid BD3;unfold zac at AP;replace AP:=zid AP;obtain ⟨k0,k1,k2,k3,k4⟩:=zaa (M.at_ (t:=t) mcs);clear hR2 M MM5 HT2;go_wp2_with fail;refine (AP.out _ (HM.out.fl mcs)).mono ?_;rintro e w5 ⟨a5,n5,c5,rfl,k5'⟩;unfold zac;dsimp only at k5' ⊢;have LY:=zid (DB.lay htt HM.out k5');obtain ⟨x0,x1,x2,x3,x4⟩:=zaa (hkeep (HM.out.at_ (t:=t) mcs) k5'.w);obtain ⟨xf0,xf1,xf2,xf3,xf4⟩:=zad (hkeep (HM.out.at_ (t:=t) mcs) k5'.w);clear k0 k1 k2 k3 k4 k5';go_wp2_with fail;obtain ⟨Z,hZ,MZ⟩:=LY.out;rw [hZ];go_meet
       case rel=>exact ⟨D3,E3,rfl,HR,zid ⟨_,_,_,MZ⟩,BD3⟩
     · have e1:(E2==0)=false:=by simpa using hE2
       have HR:=zid (show Lg.trim2 S p=(D2,E2) from by rw [HT2.out,HR1.out,if_pos hE2])
       clear hE2 HT2;go_wp2_with fail;go_meet
       case rel=>exact ⟨D2,E2,rfl,HR,MM5,zid (BD2.out.mono (by omega))⟩
    case rest=>
     obtain ⟨D3,E3,rfl,HR2,MM6,BD3⟩:=hcut;clear HT2 BD2 MM5 HR1;obtain ⟨a,n,c,M⟩:=MM6.out;obtain ⟨⟨k0,k1,k2,k3,k4⟩,k5,k6,k7,k8,k9,k10⟩:=zab (M.at_ (t:=w.heap.size) (mcm (mcm mcs)));have M7:=M.alloc #[.slice fa fn fc,.int .i64 S.d.c,.bool S.d.a,.int .i64 S.d.l,.bool S.d.x,.int .i64 S.v,.slice (some ⟨sb,so,none⟩) gn gc,.int .i64 S.x,.int .i64 S.s,.int .i64 S.z,.int .u32 S.c] 31;have hxx:t<wc.heap.size:=M.lt (t:=t) mcs;have HM7:=zid M7;have hvv:IntKind.i64.wrap (S.v+1)=S.v+1:=IntWalk.i64_in _ ⟨by have:=HSB.out.v;omega,by omega⟩;clear M MM6 M7;go_upto_region 14 with (fail);generalize wc.alloc _=W7 at HM7 ⊢;generalize wc.heap.size=x at HM7 hxx ⊢;clear k0 k1 k2 k3 k4 k5 k6 k7 k8 k9 k10;obtain ⟨⟨k0,k1,k2,k3,k4⟩,k5,k6,k7,k8,k9,k10⟩:=zab (HM7.out.at_ (t:=w.heap.size) (mcm (mcm (mcm mcs))));obtain ⟨⟨x0,x1,x2,x3,x4⟩,x5,x6,x7,x8,x9,x10⟩:=zab (HM7.out.at_ (t:=x) mcs);have xf:=zaf (HM7.out.at_ (t:=x) mcs);go_upto_region 15 with (fail)
     obtain ⟨Z,hZ,MZ⟩:=HM7.out.lay1 (t:=x) (cs':=[(x,stC (.slice fa fn fc) (.slice (some ⟨sb,so,none⟩) gn gc) {S with v:=S.v+1}),(t,dkC (.slice a n c) D3),(w.heap.size+1,zeC),(w.heap.size,stC (.slice fa fn fc) (.slice (some ⟨sb,so,none⟩) gn gc) S)]) mcs 5 (.int .i64 (S.v+1)) (four (by omega) (by omega) (by omega))
     rw [hZ];have HMZ:=zid MZ;clear hZ MZ HM7 k0 k1 k2 k3 k4 k5 k6 k7 k8 k9 k10 x0 x1 x2 x3 x4 x5 x6 x7 x8 x9 x10 xf hvv
     have hcp:¬gc=p:=by omega
     have hpn:p<=gn:=by omega
     have al0:=(Below.refl Z.heap.size Z).alloc (Nat.le_refl _) (.cells #[] 63);have MA:=HMZ.out.keep al0;have HNW:=zid ((MA.sl (v:= .slice (some ⟨sb,so,none⟩) gn gc) (l:=S.g) mcs).drop (k:=p) hpn (gc-p) (by omega) (.inl rfl)).news;have HL1:=zid (show (Rts.SL.vals (S.g.drop p)).length=(gn-p)*3 by rw [Lay.vals_len,List.length_drop, <-HGL.out];rfl);have HC1:=zid (show ∀u∈Rts.SL.vals (S.g.drop p),u.oneCell'=true from Rts.SL.vals_cells _);obtain ⟨i0,hi0,hz0,hz1,hz2⟩:=info_parts zfF;obtain ⟨⟨k0,k1,k2,k3,k4⟩,k5,k6,k7,k8,k9,k10⟩:=zab (MA.at_ (t:=w.heap.size) (mcm (mcm (mcm mcs))));clear MA al0
     have HFO:=zid (show ∀v3 w4,w4.ownsRow Z.heap.size 63 3 v3 (0+(gn-p)) ([]++Rts.SL.vals (S.g.drop p))->(Z.alloc (.cells #[] 63)).grownBy w4 (some Z.heap.size)->∃a3 c3,v3= .slice a3 (gn-p) c3/\Hid (Ms w w.heap.size (.slice fa fn fc) (.slice (some ⟨sb,so,none⟩) gn gc) [(x,stC (.slice fa fn fc) (.slice (some ⟨sb,so,none⟩) gn gc) {S with v:=S.v+1}),(t,dkC (.slice a n c) D3),(w.heap.size+1,zeC),(w.heap.size,stC (.slice fa fn fc) (.slice (some ⟨sb,so,none⟩) gn gc) S)] [(.slice a n c,D3.f),(.slice fa fn fc,S.d.f)] [(.slice a3 (gn-p) c3,S.g.drop p),(.slice (some ⟨sb,so,none⟩) gn gc,S.g)] w4) from fun v3 w4 hown hgrow=>by
      rw [Nat.zero_add,List.nil_append] at hown
      have B3:=((Below.refl Z.heap.size Z).alloc (Nat.le_refl _) (.cells #[] 63)).grown hgrow (by simp) (fun q hq=>by injection hq with hq;omega)
      have hO:OwnL Rts.SL w4 Z.heap.size v3 (S.g.drop p):=by
       unfold OwnL;rw [List.length_drop, <-HGL.out];exact hown
      have hI:=hO.is (by have:=(HMZ.out.sl (v:= .slice (some ⟨sb,so,none⟩) gn gc) (l:=S.g) mcs).len.2;rw [List.length_drop];omega) (fun y hy=>(HMZ.out.sl (v:= .slice (some ⟨sb,so,none⟩) gn gc) (l:=S.g) mcs).ok y (List.mem_of_mem_drop hy))
      obtain ⟨a3,c3,rfl⟩:∃a3 c3,v3= .slice a3 (gn-p) c3:=by
       obtain ⟨a3,c3,e,_⟩:=hI;exact ⟨a3,c3,by rw [e,List.length_drop, <-HGL.out]⟩
      refine ⟨a3,c3,rfl,zid (HMZ.out.fresh B3 hI fun j hj a' k' c' e' hk' e2=>?_)⟩
      injection e' with e1
      subst e1;have:=(hO.lt a'.block rfl).1
      omega)
     go_upto_region 16 with (at_builtin;refine wpList_append_own _ rfl _ _ 28 rfl Z.heap.size 63 i0 (.agg #[.int .i64 0,.int .i64 0,.int .i64 0]) 3 24 Tryz.underlying28 hi0 hz0 hz1 hz2 rfl (by decide) _ 0 [] rfl (zbU (heap_alloc_new Z _) (Nat.le_refl _)) ⟨sb,so+p*3,none⟩ (gn-p) (gc-p) (Rts.SL.vals (S.g.drop p)) rfl HL1.out HNW.out HC1.out (by unfold maxLen;omega) (by omega) (by simp) ?_;intro v3 w4 hown3 hgrow3 hnil3;obtain ⟨a3,c3,rfl,HM4⟩:=HFO.out _ _ hown3 hgrow3;obtain ⟨⟨u0,u1,u2,u3,u4⟩,u5,u6,u7,u8,u9,u10⟩:=zab (HM4.out.at_ (t:=x) mcs);have uf:=zaf (HM4.out.at_ (t:=x) mcs);clear hown3 hgrow3 hnil3)
     clear k0 k1 k2 k3 k4 k5 k6 k7 k8 k9 k10 u0 u1 u2 u3 u4 u5 u6 u7 u8 u9 u10 uf HFO HMZ HNW HL1 HC1 hi0 hz0 hz1 hz2
     obtain ⟨Z2,hZ2,MZ2⟩:=HM4.out.lay1 (t:=x) (cs':=[(x,stC (.slice fa fn fc) (.slice a3 (gn-p) c3) {S with v:=S.v+1,g:=S.g.drop p}),(t,dkC (.slice a n c) D3),(w.heap.size+1,zeC),(w.heap.size,stC (.slice fa fn fc) (.slice (some ⟨sb,so,none⟩) gn gc) S)]) mcs 6 (.slice a3 (gn-p) c3) (four (by omega) (by omega) (by omega))
     rw [hZ2];have HMZ:=zid MZ2;clear hZ2 MZ2 HM4;have hbl:B.length<=3000:=HLEN.out;go_upto_region 16 with (fail);obtain ⟨⟨x0,x1,x2,x3,x4⟩,x5,x6,x7,x8,x9,x10⟩:=zab (HMZ.out.at_ (t:=x) mcs);have xf:=zaf (HMZ.out.at_ (t:=x) mcs);go_wp2_with fail;refine (OF.out _).mono ?_;rintro e w5 ⟨rfl,rfl⟩;go_upto_region 17 with (fail)
     obtain ⟨Z3,hZ3,MZ3⟩:=HMZ.out.lay1 (t:=x) (cs':=[(x,stC (.slice fa fn fc) (.slice a3 (gn-p) c3) {S with v:=S.v+1,g:=S.g.drop p,z:=(B.length:Int)}),(t,dkC (.slice a n c) D3),(w.heap.size+1,zeC),(w.heap.size,stC (.slice fa fn fc) (.slice (some ⟨sb,so,none⟩) gn gc) S)]) mcs 9 (.int .i64 B.length) (four (by omega) (by omega) (by omega))
     rw [hZ3];obtain ⟨Z4,hZ4,MZ4⟩:=MZ3.lay1 (t:=x) (cs':=[(x,stC (.slice fa fn fc) (.slice a3 (gn-p) c3) (Lg.trimX S p)),(t,dkC (.slice a n c) D3),(w.heap.size+1,zeC),(w.heap.size,stC (.slice fa fn fc) (.slice (some ⟨sb,so,none⟩) gn gc) S)]) mcs 10 (.int .u32 (Cp.sum 0 B:Int)) (by rw [HTX.out];exact four (by omega) (by omega) (by omega));rw [hZ4];have HM5:=zid (show DX w (.slice fa fn fc) (.slice (some ⟨sb,so,none⟩) gn gc) (.slice a3 (gn-p) c3) S (Lg.trimX S p) x t D3 Z4 from ⟨a,n,c,(show Ms w w.heap.size (.slice fa fn fc) (.slice (some ⟨sb,so,none⟩) gn gc) [(x,stC (.slice fa fn fc) (.slice a3 (gn-p) c3) (Lg.trimX S p)),(t,dkC (.slice a n c) D3),(w.heap.size+1,zeC),(w.heap.size,stC (.slice fa fn fc) (.slice (some ⟨sb,so,none⟩) gn gc) S)] [(.slice a n c,D3.f),(.slice fa fn fc,S.d.f)] [(.slice a3 (gn-p) c3,(Lg.trimX S p).g),(.slice (some ⟨sb,so,none⟩) gn gc,S.g)] Z4 from MZ4).sub swap2 (fun _ h=>h) (fun _ h=>h)⟩);clear hZ3 MZ3 hZ4 MZ4 HMZ x0 x1 x2 x3 x4 x5 x6 x7 x8 x9 x10 xf;obtain ⟨X,hX⟩:∃X,Lg.trimX S p=X:=⟨_,rfl⟩
     have MB:Mfs.MnB (man X):=by
      have h1:=HSX.out;rw [hX] at h1;exact ⟨⟨by have:=h1.v;show _<=X.v;omega,by have:=h1.v;show X.v<=_;omega⟩,⟨by have:=h1.z;show _<=X.z;omega,by have:=h1.z;show X.z<=_;omega⟩,h1.c⟩
     rw [hX] at HM5 HSX HT3 HTX;have HX:=zid hX;clear hX
     go_upto_if 86 with (fail)
     go_cut [13] (fun e we=>∃D4 E4,e= .int .i64 E4/\Hid (Lg.trim3 S p=(D4,E4))/\Hid (DX w (.slice fa fn fc) (.slice (some ⟨sb,so,none⟩) gn gc) (.slice a3 (gn-p) c3) S X x t D4 we)/\Hid (Bd D4 (k+10)))
     case first=>
      by_cases hE3:E3=0
      · subst hE3
        obtain ⟨a,n,c,M⟩:=HM5.out
        have HM:=zid M;obtain ⟨⟨D4,E4⟩,hR2⟩:∃R,swap D3 (man X)=R:=⟨_,rfl⟩;have RM:=fun (W:World) (h:IsL Rts.SL W (.slice a3 (gn-p) c3) X.g)=>zd1 (.slice fa fn fc) (.slice a3 (gn-p) c3) X W h HSX.out;have RW:=fun (W:World) (am:Option Addr) (nm cm:Nat) (hv:IsL FL W (.slice a n c) D3.f) (hm:IsL Mfs.IL W (.slice am nm cm) (man X).l)=>zdm a n c D3 am nm cm (man X) W _ hv hm BD3.out (by omega) MB;have BD4:=zb9 BD3.out (man X);rw [hR2] at RW BD4;obtain ⟨⟨D5,E5⟩,hR3⟩:∃R,Lg.undo (D4,E4) N=R:=⟨_,rfl⟩;have BD5:=bd_undo BD4 E4 N;have UN:=fun (a5:Option Addr) (n5 c5:Nat) (W:World) (h:IsL FL W (.slice a5 n5 c5) D4.f)=>zec a5 n5 c5 D4 E4 N W _ h BD4 (by omega);rw [hR3] at BD5 UN;have HR:=zid (show Lg.trim3 S p=(D5,E5) from by rw [HT3.out,HR2.out,if_neg (by show ¬(0:Int)≠0;decide),hR2,hR3]);replace BD5:=zid BD5;obtain ⟨mn,hmn⟩:∃m,man X=m:=⟨_,rfl⟩;rw [hmn] at RM RW;unfold zac at RW UN;unfold zag at RM;replace RM:=zid RM;replace RW:=zid RW;replace UN:=zid UN;clear hR2 hR3 hmn BD4 M HM5 HT3 MB;go_upto_region 18 with (fail);have PD:=zid (HM.out.keep (W':=Z4.drew) (Below.refl _ _).drew);obtain ⟨k0,k1,k2,k3,k4⟩:=zaa (PD.out.at_ (t:=t) mcs);obtain ⟨⟨x0,x1,x2,x3,x4⟩,x5,x6,x7,x8,x9,x10⟩:=zab (PD.out.at_ (t:=x) (mcm mcs))
        go_region_with (first | (go_at_call 33;refine (RM.out _ (PD.out.sl mcs)).mono ?_;rintro e w5 ⟨am,nm,cm,rfl,hm,b5⟩;have P5:=zid (PD.out.keep b5);have HMM:=zid hm;obtain ⟨l0,l1,l2,l3,l4⟩:=zaa (P5.out.at_ (t:=t) mcs);clear hm b5) | (go_at_call 54;refine (RW.out _ _ _ _ (P5.out.fl mcs) HMM.out).mono ?_;rintro e w6 ⟨a6,n6,c6,rfl,k6'⟩;have LY:=zid (DX.lay htt hxx P5.out k6');obtain ⟨y0,y1,y2,y3,y4⟩:=zaa (hkeep (P5.out.at_ (t:=t) mcs) k6'.w);have yf:=zad (hkeep (P5.out.at_ (t:=t) mcs) k6'.w);obtain ⟨yf0,yf1,yf2,yf3,yf4⟩:=yf;clear k6';unfold zac))
        all_goals
         go_upto_region 19 with (fail)
         obtain ⟨Z5,hZ5,MZ5⟩:=LY.out;rw [hZ5];have HMZ5:=zid MZ5;clear k0 k1 k2 k3 k4 x0 x1 x2 x3 x4 x5 x6 x7 x8 x9 x10 l0 l1 l2 l3 l4 y0 y1 y2 y3 y4 yf0 yf1 yf2 yf3 yf4;obtain ⟨k0,k1,k2,k3,k4⟩:=zaa (MZ5.at_ (t:=t) mcs);clear hZ5 MZ5 LY;go_wp2_with fail;refine (UN.out _ _ _ _ (HMZ5.out.fl mcs)).mono ?_;rintro e w7 ⟨a7,n7,c7,rfl,k7'⟩;unfold zac;dsimp only at k7' ⊢;have LY2:=zid (DX.lay htt hxx HMZ5.out k7');obtain ⟨x0,x1,x2,x3,x4⟩:=zaa (hkeep (HMZ5.out.at_ (t:=t) mcs) k7'.w);obtain ⟨xf0,xf1,xf2,xf3,xf4⟩:=zad (hkeep (HMZ5.out.at_ (t:=t) mcs) k7'.w);clear k0 k1 k2 k3 k4 k7';go_wp2_with fail;obtain ⟨Z6,hZ6,MZ6⟩:=LY2.out;rw [hZ6];go_meet
         case rel=>exact ⟨D5,E5,rfl,HR,zid ⟨_,_,_,MZ6⟩,BD5⟩
      · have e1:(E3==0)=false:=by simpa using hE3
        have HR:=zid (show Lg.trim3 S p=(D3,E3) from by rw [HT3.out,HR2.out,if_pos hE3])
        clear hE3 HT3;go_wp2_with fail;go_meet
        case rel=>exact ⟨D3,E3,rfl,HR,HM5,zid (BD3.out.mono (by omega))⟩
     case rest=>
      obtain ⟨D4,E4,rfl,HR3,MM7,BD4⟩:=hcut;clear HM5 HT3 MB BD3 HR2
      by_cases hE4:E4=0
      case neg=>
       have e1:(E4 != 0)=true:=by simpa using hE4
       have HR:=zid (show Lg.trimK S p=({S with d:=D4},E4) from by rw [HTK.out HP0.out,HR3.out,if_pos hE4])
       obtain ⟨a,n,c,M⟩:=MM7.out;have HM:=zid M;clear hE4 HTK HR3 MM7 M;obtain ⟨k0,k1,k2,k3,k4⟩:=zaa (HM.out.at_ (t:=t) mcs);obtain ⟨⟨x0,x1,x2,x3,x4⟩,x5,x6,x7,x8,x9,x10⟩:=zab (HM.out.at_ (t:=w.heap.size) (mcm (mcm (mcm mcs))));have xf:=zaf (HM.out.at_ (t:=w.heap.size) (mcm (mcm (mcm mcs))));go_upto_region 22 with (fail)
       obtain ⟨Z,hZ,MZ⟩:=HM.out.layD (t:=w.heap.size) (cs':=[(w.heap.size,stC (.slice a n c) (.slice (some ⟨sb,so,none⟩) gn gc) {S with d:=D4}),(w.heap.size+1,zeC)]) (mcm (mcm (mcm mcs))) (.slice a n c) (.int .i64 D4.c) (.bool D4.a) (.int .i64 D4.l) (.bool D4.x) (fun q hq=>by
        rcases List.mem_cons.1 hq with rfl | hq
        · exact .inl rfl
        · rw [List.mem_singleton] at hq
          subst hq
          exact .inr ⟨mcm (mcm mcs),Nat.succ_ne_self _⟩)
       rw [hZ];have HMZ6:=zid MZ;clear k0 k1 k2 k3 k4 x0 x1 x2 x3 x4 x5 x6 x7 x8 x9 x10 xf hZ MZ;obtain ⟨⟨k0,k1,k2,k3,k4⟩,k5,k6,k7,k8,k9,k10⟩:=zab (HMZ6.out.at_ (t:=w.heap.size) mcs);obtain ⟨⟨x0,x1,x2,x3,x4⟩,x5,x6,x7,x8,x9,x10⟩:=zab (HMZ6.out.at_ (t:=w.heap.size+1) (mcm mcs));have xf:=zaf (HMZ6.out.at_ (t:=w.heap.size+1) (mcm mcs));go_wp2_with fail
       obtain ⟨Y,hY,MY⟩:=HMZ6.out.lay11 (t:=w.heap.size+1) (cs':=[(w.heap.size+1,stC (.slice a n c) (.slice (some ⟨sb,so,none⟩) gn gc) {S with d:=D4})]) (mcm mcs) (.slice a n c) (.int .i64 D4.c) (.bool D4.a) (.int .i64 D4.l) (.bool D4.x) (.int .i64 S.v) (.slice (some ⟨sb,so,none⟩) gn gc) (.int .i64 S.x) (.int .i64 S.s) (.int .i64 S.z) (.int .u32 S.c) (fun p hp=> .inl (List.mem_singleton.1 hp))
       rw [hY];obtain ⟨⟨z0,z1,z2,z3,z4⟩,z5,z6,z7,z8,z9,z10⟩:=zab (MY.at_ (t:=w.heap.size+1) mcs);rw [HR.out];refine bodyPost_ret (v:= .tuple #[.agg #[.slice a n c,.int .i64 D4.c,.bool D4.a,.int .i64 D4.l,.bool D4.x,.int .i64 S.v,.slice (some ⟨sb,so,none⟩) gn gc,.int .i64 S.x,.int .i64 S.s,.int .i64 S.z,.int .u32 S.c],.int .i64 E4]) (by simp [results,Tryz.results23,go_sem,z0,z1,z2,z3,z4,z5,z6,z7,z8,z9,z10]) rfl ?_
       exact ⟨_,_,_,_,_,_,rfl,MY.sts (T:={S with d:=D4}) mcs (mcm mcs)⟩
      case pos=>
       subst hE4;have e1:((0:Int) != 0)=false:=rfl
       have HK:=zid (show Lg.trimK S p=({X with d:=(Lg.trim4 S p D4).1},(Lg.trim4 S p D4).2) from by rw [HTK.out HP0.out,HR3.out,if_neg (by show ¬(0:Int)≠0;decide),HX.out])
       have hpz:p<=9223372036854775807:=by omega
       clear HTK HR3;go_wp2_with fail
       go_loopw [13,15] (fun e i wr=>∃(j:Nat) (D:Dp.Dk) (E:Int),e= .int .i64 E/\i= .int .i64 j/\j<=p/\Hid (Lg.delSegs D4 (S.g.take p)=if E=0 then Lg.delSegs D ((S.g.take p).drop j) else (D,E))/\Hid (DX w (.slice fa fn fc) (.slice (some ⟨sb,so,none⟩) gn gc) (.slice a3 (gn-p) c3) S X x t D wr)/\Hid (Bd D (k+10+j))) (fun _ i _=>p-(intOf i).toNat)
       case atStart=>exact ⟨0,D4,0,rfl,rfl,Nat.zero_le _,zid (by rw [if_pos rfl,List.drop_zero]),MM7,BD4⟩
       case round=>
        obtain ⟨j,D,E,rfl,rfl,hj,HD,HM7,BD7⟩:=hrel
        by_cases hgo:j<p/\E=0
        · obtain ⟨hlt,rfl⟩:=hgo
          have hjl:j<S.g.length:=by have:=HGL.out;omega
          have hjt:j<(S.g.take p).length:=by rw [List.length_take];omega
          have hgj:(S.g.take p).getD j Rt.zero=S.g.getD j Rt.zero:=by
           rw [zao hjt,zao hjl,List.getElem_take]
          have hgb:=HSB.out.g (S.g.getD j Rt.zero) (by rw [zao hjl];exact List.getElem_mem hjl);have hHD:=HD.out;rw [if_pos rfl,Rt.drop_at hjt,hgj] at hHD;rw [show Lg.delSegs D (S.g.getD j Rt.zero::(S.g.take p).drop (j+1))=if (Dp.delete D (segN (S.g.getD j Rt.zero).b)).2≠0 then Dp.delete D (segN (S.g.getD j Rt.zero).b) else Lg.delSegs (Dp.delete D (segN (S.g.getD j Rt.zero).b)).1 ((S.g.take p).drop (j+1)) from rfl] at hHD;obtain ⟨a,n,c,M⟩:=HM7.out;have HM:=zid M;have PD:=zid (M.keep (W':=wr.drew) (Below.refl _ _).drew);obtain ⟨sb',so',es,s0',s1',s2'⟩:=zce (PD.out.sl (v:= .slice (some ⟨sb,so,none⟩) gn gc) (l:=S.g) (mcm mcs)) (show j<gn by omega)
          injection es with es
          injection es with es1 es2
          subst es1 es2;clear s1' s2' hgj hjt hjl M HM7 HD;generalize S.g.getD j Rt.zero=G at*;have SG:=zid (show ∀W:World,Calls Tryz.prog 35 #[.int .i64 G.b] W fun e w'=>e= .returned (.string (segN G.b))/\Below W.heap.size W w' from fun W=>zbq G.b W (by have:=hgb.1;omega));obtain ⟨⟨D8,E8⟩,hR8⟩:∃R,Dp.delete D (segN G.b)=R:=⟨_,rfl⟩;have RD:=fun (W:World) (h:IsL FL W (.slice a n c) D.f)=>zbe BD7.out (by omega) (segN G.b) h;have BD8:=zam BD7.out (segN G.b);rw [hR8] at hHD RD BD8;dsimp only at hHD BD8
          have HD8:=zid (show Lg.delSegs D4 (S.g.take p)=if E8=0 then Lg.delSegs D8 ((S.g.take p).drop (j+1)) else (D8,E8) from by
           rw [hHD]
           by_cases h:E8=0
           · rw [if_neg (by simpa using h),if_pos h]
           · rw [if_pos h,if_neg h])
          replace BD8:=zid BD8;unfold zac at RD;replace RD:=zid RD;generalize segN G.b=N8 at*;clear hR8 hHD hgb;go_upto_region 26 with (fail);obtain ⟨k0,k1,k2,k3,k4⟩:=zaa (PD.out.at_ (t:=t) mcs);obtain ⟨⟨x0,x1,x2,x3,x4⟩,x5,x6,x7,x8,x9,x10⟩:=zab (PD.out.at_ (t:=w.heap.size) (mcm (mcm (mcm mcs))))
          have hjg:j<gn:=by omega
          go_region_with (first | (go_at_call 35;refine (SG.out _).mono ?_;rintro e w5 ⟨rfl,b5⟩;have P5:=zid (PD.out.keep b5);obtain ⟨l0,l1,l2,l3,l4⟩:=zaa (P5.out.at_ (t:=t) mcs);clear b5) | (go_at_call 34;refine (RD.out _ (P5.out.fl mcs)).mono ?_;rintro e w6 ⟨a6,n6,c6,rfl,k6'⟩;have LY:=zid (DX.lay htt hxx P5.out k6');obtain ⟨y0,y1,y2,y3,y4⟩:=zaa (hkeep (P5.out.at_ (t:=t) mcs) k6'.w);have yf:=zad (hkeep (P5.out.at_ (t:=t) mcs) k6'.w);obtain ⟨yf0,yf1,yf2,yf3,yf4⟩:=yf;clear k6';unfold zac))
          all_goals
           go_upto_region 25 with (fail)
           obtain ⟨Z5,hZ5,MZ5⟩:=LY.out;rw [hZ5];have HMZ5:=zid (show DX w (.slice fa fn fc) (.slice (some ⟨sb,so,none⟩) gn gc) (.slice a3 (gn-p) c3) S X x t D8 Z5 from ⟨_,_,_,MZ5⟩);clear hZ5 MZ5 LY k0 k1 k2 k3 k4 x0 x1 x2 x3 x4 x5 x6 x7 x8 x9 x10 l0 l1 l2 l3 l4 y0 y1 y2 y3 y4 yf0 yf1 yf2 yf3 yf4 s0';go_wp2_with fail
           go_roundw
           case rel=>exact ⟨j+1,D8,E8,rfl,by go_num,by omega,HD8,HMZ5,zid (BD8.out.mono (by omega))⟩
           case measure=>simp [intOf];omega
        · have hfin:=zid (show Lg.delSegs D4 (S.g.take p)=(D,E) from by
           rw [HD.out]
           by_cases hE:E=0
           · rw [if_pos hE,List.drop_eq_nil_of_le (by rw [List.length_take];omega),hE]
             rfl
           · rw [if_neg hE])
          obtain ⟨a,n,c,M⟩:=HM7.out;have HM:=zid M
          have hrr:(j<p/\E≠0)\/(¬j<p/\E≠0)\/(¬j<p/\E=0):=by
           by_cases h1:j<p
           · exact .inl ⟨h1,fun e=>hgo ⟨h1,e⟩⟩
           · by_cases h2:E=0
             · exact .inr (.inr ⟨h1,h2⟩)
             · exact .inr (.inl ⟨h1,h2⟩)
          have FLO:=zid fun (W:World) (h:IsL Rts.SL W (.slice (some ⟨sb,so,none⟩) gn gc) S.g)=>zc1 (.slice fa fn fc) (.slice (some ⟨sb,so,none⟩) gn gc) S W h HNE.out;unfold zag at FLO;obtain ⟨⟨x0,x1,x2,x3,x4⟩,x5,x6,x7,x8,x9,x10⟩:=zab (M.at_ (t:=w.heap.size) (mcm (mcm (mcm mcs))))
          have H4:=zid (show Lg.trim4 S p D4=if E=0/\0<floor S then Dp.delete D (Lg.snapN (floor S)) else (D,E) from by
           rw [HT4.out,hfin.out])
          have HFB:=zid (floor_in HNE.out HSB.out);clear M hgo HD HT4 hfin HM7
          rcases hrr with ⟨hlt,hE⟩ | ⟨hlt,hE⟩ | ⟨hlt,rfl⟩
          rotate_left
          rotate_left
          go_upto_if 134 with (refine (FLO.out _ (HM.out.sl (mcm mcs))).mono ?_;rintro e w5 ⟨rfl,b5⟩)
          rotate_left
          have e2:(E==0)=false:=by simpa using hE
          go_upto_if 134 with (fail)
          rotate_left
          have e2:(E==0)=false:=by simpa using hE
          go_upto_if 134 with (fail)
          all_goals
           go_cut [13] (fun e we=>∃D9 E9,e= .int .i64 E9/\Hid (Lg.trim4 S p D4=(D9,E9))/\Hid (DX w (.slice fa fn fc) (.slice (some ⟨sb,so,none⟩) gn gc) (.slice a3 (gn-p) c3) S X x t D9 we))
          case first=>
           have HR:=zid (show Lg.trim4 S p D4=(D,E) from by rw [H4.out,if_neg (fun h=>hE h.1)]);clear H4;go_wp2_with fail;go_meet
           case rel=>exact ⟨D,E,rfl,HR,zid ⟨_,_,_,HM.out⟩⟩
          case first=>
           have PD:=zid (HM.out.keep b5)
           by_cases hfl:0<floor S
           · obtain ⟨⟨D9,E9⟩,hR9⟩:∃R,Dp.delete D (Lg.snapN (floor S))=R:=⟨_,rfl⟩
             have HR:=zid (show Lg.trim4 S p D4=(D9,E9) from by rw [H4.out,if_pos ⟨by trivial,hfl⟩,hR9])
             have RD:=fun (W:World) (h:IsL FL W (.slice a n c) D.f)=>zbe BD7.out (by omega) (Lg.snapN (floor S)) h;rw [hR9] at RD;unfold zac at RD;replace RD:=zid RD;have SF:=zid (show ∀W:World,Calls Tryz.prog 37 #[.int .i64 (floor S)] W fun e w'=>e= .returned (.string (Lg.snapN (floor S)))/\Below W.heap.size W w' from fun W=>zcf (floor S) W (by omega));clear hR9 H4 x0 x1 x2 x3 x4 x5 x6 x7 x8 x9 x10;go_upto_region 28 with (fail);generalize Lg.snapN (floor S)=N9 at*;have PE:=zid (PD.out.keep (W':=w5.drew) (Below.refl _ _).drew);obtain ⟨k0,k1,k2,k3,k4⟩:=zaa (PE.out.at_ (t:=t) mcs);obtain ⟨⟨x0,x1,x2,x3,x4⟩,x5,x6,x7,x8,x9,x10⟩:=zab (PE.out.at_ (t:=w.heap.size) (mcm (mcm (mcm mcs))))
             go_region_with (first | (go_at_call 36;refine (FLO.out _ (PE.out.sl (mcm mcs))).mono ?_;rintro e w6 ⟨rfl,b6⟩;have P6:=zid (PE.out.keep b6);obtain ⟨l0,l1,l2,l3,l4⟩:=zaa (P6.out.at_ (t:=t) mcs);clear b6) | (go_at_call 37;refine (SF.out _).mono ?_;rintro e w7 ⟨rfl,b7⟩;have P7:=zid (P6.out.keep b7);obtain ⟨m0,m1,m2,m3,m4⟩:=zaa (P7.out.at_ (t:=t) mcs);clear b7) | (go_at_call 34;refine (RD.out _ (P7.out.fl mcs)).mono ?_;rintro e w8 ⟨a6,n6,c6,rfl,k6'⟩;have LY:=zid (DX.lay htt hxx P7.out k6');obtain ⟨y0,y1,y2,y3,y4⟩:=zaa (hkeep (P7.out.at_ (t:=t) mcs) k6'.w);have yf:=zad (hkeep (P7.out.at_ (t:=t) mcs) k6'.w);obtain ⟨yf0,yf1,yf2,yf3,yf4⟩:=yf;clear k6';unfold zac))
             all_goals
              obtain ⟨Z5,hZ5,MZ5⟩:=LY.out
              have HMZ5:=zid (show DX w (.slice fa fn fc) (.slice (some ⟨sb,so,none⟩) gn gc) (.slice a3 (gn-p) c3) S X x t D9 Z5 from ⟨_,_,_,MZ5⟩);go_wp2_with fail;rw [hZ5];go_meet
              case rel=>exact ⟨D9,E9,rfl,HR,HMZ5⟩
           · have HR:=zid (show Lg.trim4 S p D4=(D,0) from by rw [H4.out,if_neg (fun h=>hfl h.2)])
             clear H4
             go_wp2_with fail;go_meet
             case rel=>exact ⟨D,0,rfl,HR,zid ⟨_,_,_,PD.out⟩⟩
          case first=>
           have HR:=zid (show Lg.trim4 S p D4=(D,E) from by rw [H4.out,if_neg (fun h=>hE h.1)]);clear H4;go_wp2_with fail;go_meet
           case rel=>exact ⟨D,E,rfl,HR,zid ⟨_,_,_,HM.out⟩⟩
          all_goals
           obtain ⟨D9,E9,rfl,HR4,MM8⟩:=hcut
           have HR:=zid (show Lg.trimK S p=({X with d:=D9},E9) from by rw [HK.out,HR4.out])
           obtain ⟨a,n,c,M⟩:=MM8.out;have HM:=zid M;clear M;obtain ⟨k0,k1,k2,k3,k4⟩:=zaa (HM.out.at_ (t:=t) mcs);obtain ⟨⟨y0,y1,y2,y3,y4⟩,y5,y6,y7,y8,y9,y10⟩:=zab (HM.out.at_ (t:=x) (mcm mcs));have yf:=zaf (HM.out.at_ (t:=x) (mcm mcs));go_upto_region 30 with (fail)
           obtain ⟨Z,hZ,MZ⟩:=HM.out.layD (t:=x) (cs':=[(x,stC (.slice a n c) (.slice a3 (gn-p) c3) {X with d:=D9}),(w.heap.size+1,zeC)]) (mcm mcs) (.slice a n c) (.int .i64 D9.c) (.bool D9.a) (.int .i64 D9.l) (.bool D9.x) (fun q hq=>by
            rcases List.mem_cons.1 hq with rfl | hq
            · exact .inl rfl
            · rw [List.mem_singleton] at hq
              subst hq
              exact .inr ⟨mcm (mcm mcs),by show w.heap.size+1≠x;omega⟩)
           rw [hZ];have HMZ6:=zid MZ;clear k0 k1 k2 k3 k4 y0 y1 y2 y3 y4 y5 y6 y7 y8 y9 y10 yf hZ MZ;obtain ⟨⟨k0,k1,k2,k3,k4⟩,k5,k6,k7,k8,k9,k10⟩:=zab (HMZ6.out.at_ (t:=x) mcs);obtain ⟨⟨y0,y1,y2,y3,y4⟩,y5,y6,y7,y8,y9,y10⟩:=zab (HMZ6.out.at_ (t:=w.heap.size+1) (mcm mcs));have yf:=zaf (HMZ6.out.at_ (t:=w.heap.size+1) (mcm mcs));go_wp2_with fail
           obtain ⟨Y,hY,MY⟩:=HMZ6.out.lay11 (t:=w.heap.size+1) (cs':=[(w.heap.size+1,stC (.slice a n c) (.slice a3 (gn-p) c3) {X with d:=D9})]) (mcm mcs) (.slice a n c) (.int .i64 D9.c) (.bool D9.a) (.int .i64 D9.l) (.bool D9.x) (.int .i64 X.v) (.slice a3 (gn-p) c3) (.int .i64 X.x) (.int .i64 X.s) (.int .i64 X.z) (.int .u32 X.c) (fun p hp=> .inl (List.mem_singleton.1 hp))
           rw [hY];obtain ⟨⟨z0,z1,z2,z3,z4⟩,z5,z6,z7,z8,z9,z10⟩:=zab (MY.at_ (t:=w.heap.size+1) mcs);rw [HR.out];refine bodyPost_ret (v:= .tuple #[.agg #[.slice a n c,.int .i64 D9.c,.bool D9.a,.int .i64 D9.l,.bool D9.x,.int .i64 X.v,.slice a3 (gn-p) c3,.int .i64 X.x,.int .i64 X.s,.int .i64 X.z,.int .u32 X.c],.int .i64 E9]) (by simp [results,Tryz.results23,go_sem,z0,z1,z2,z3,z4,z5,z6,z7,z8,z9,z10]) rfl ?_
           exact ⟨_,_,_,_,_,_,rfl,MY.sts (T:={X with d:=D9}) mcs mcs⟩
end Trm
end Go.Proofs.YtgmppfpllogdcaaGreat

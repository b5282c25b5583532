/-
  Parts of what the laws of this seat stand on:TrmAct,TrmOpen,InsOpen,TrmBox,RoHv.
-/
import Derived.Test.YtgmppfpllogdcaaGreatBi1
import Derived.ChangeSame
import Derived.Deep.DeepCutAuto
import Derived.Deep.Fields
import Derived.Deep.Heap
import Derived.Deep.RegionHeld
import Derived.Deep.RegionHeld3
import Derived.Deep.Slices
import Derived.Laws.OwnMore
import Derived.Laws.StructEq
import Derived.Lib.AppendZeros
import Derived.Lib.SmallJoins
import Derived.LoopIn
import Derived.LoopNIn
import Derived.Maps.AppendAt
import Derived.OrdersIn
import Derived.OwnWalkIn
import Derived.RangeFuncBound
import Derived.RangeFuncBox
import Derived.RangeFuncCalls
import Derived.RangeFuncLeaves
import Derived.RangeFuncNested
import Derived.Shelf.Abstract
import Derived.Shelf.RegionOpen
import Derived.TacticsInMore
import Derived.Test.YtgmppfpllogdcaaGreatBi12
import Derived.Test.YtgmppfpllogdcaaGreatBi13
import Derived.Test.YtgmppfpllogdcaaGreatBi14
import Derived.Test.YtgmppfpllogdcaaGreatBi15
import Derived.Test.YtgmppfpllogdcaaGreatBi16
import Derived.Test.YtgmppfpllogdcaaGreatBi21
import Derived.Test.YtgmppfpllogdcaaGreatBi22
import Derived.Test.YtgmppfpllogdcaaGreatBi25
import Derived.Test.YtgmppfpllogdcaaGreatBi29
import Derived.Test.YtgmppfpllogdcaaGreatBi30
import Derived.Test.YtgmppfpllogdcaaGreatBi31
import Derived.Test.YtgmppfpllogdcaaGreatBi33
import Derived.Test.YtgmppfpllogdcaaGreatBi35
import Derived.Test.YtgmppfpllogdcaaGreatBi39
import Derived.Test.YtgmppfpllogdcaaGreatBi4
import Derived.Test.YtgmppfpllogdcaaGreatBi40
import Derived.Test.YtgmppfpllogdcaaGreatBi44
import Derived.Test.YtgmppfpllogdcaaGreatBi5
import Derived.WalkKit
set_option maxRecDepth 100000
set_option maxHeartbeats 6400000
namespace Go.Proofs.YtgmppfpllogdcaaGreat
namespace Trm
open Go.RowKit So Dsk Rts Sto
def paz:Lg.Pa:=⟨0,0,0,⟨#[]⟩⟩
def zfz (a:Lg.Pa):List Value:=[.int .i64 a.k,.int .i64 a.n,.int .i64 a.m,.string a.d]
def PaB (a:Lg.Pa):Prop:=(-9223372036854775808<=a.k/\a.k<=9223372036854775807)/\(-9223372036854775808<=a.n/\a.n<=9223372036854775807)/\(-9223372036854775808<=a.m/\a.m<=9223372036854775807)/\a.d.size<=9223372036854775807
def PaL:Lay Lg.Pa where
 enc:=zfz
 k:=4
 len:=fun _=>rfl
 one:=by intro f u hu;simp [zfz] at hu;rcases hu with rfl | rfl | rfl | rfl<;>rfl
 pos:=by decide
 T:=60
 ok:=PaB
 z:=paz
theorem pa_at {w:World} {fa:Option Addr} {fn fc:Nat} {l:List Lg.Pa} (h:IsL PaL w (.slice fa fn fc) l) {i:Nat} (hi:i<fn):
 ∃b off,fa=some ⟨b,off,none⟩/\w.cell? ⟨b,off+i*4,none⟩=some (.int .i64 (l.getD i paz).k)/\w.cell? ⟨b,off+i*4+1,none⟩=some (.int .i64 (l.getD i paz).n)/\w.cell? ⟨b,off+i*4+2,none⟩=some (.int .i64 (l.getD i paz).m)/\w.cell? ⟨b,off+i*4+3,none⟩=some (.string (l.getD i paz).d):=by
 have h':=h;obtain ⟨a',cap',e,_,_,h3⟩:=h
 injection e with e1 e2 e3
 rcases h3 with h3 | ⟨b,off,h4,_⟩
 · rw [h3] at e2;simp at e2;omega
 · subst e1
   subst h4
   exact ⟨b,off,rfl,h'.at_ hi 0 _ rfl,h'.at_ hi 1 _ rfl,h'.at_ hi 2 _ rfl,h'.at_ hi 3 _ rfl⟩
def Pr (w:World) (t:Nat) (S:St) (W:World):Prop:=∃a n c a' n' c',Ms w w.heap.size (.slice none 0 0) (.slice none 0 0) [(t,stC (.slice a n c) (.slice a' n' c') S),(w.heap.size,zeC)] [(.slice a n c,S.d.f)] [(.slice a' n' c',S.g)] W
theorem Pr.w {w W:World} {t:Nat} {S:St} (h:Pr w t S W):Below w.heap.size w W:=by
 obtain ⟨a,n,c,a',n',c',h⟩:=h;exact h.w
theorem tw {t t1:Nat} {o o' o1:Obj} (h1:t1≠t):∀q∈[(t,o'),(t1,o1)],q=(t,o')\/(q∈[(t,o),(t1,o1)]/\q.1≠t):=fun q hq=>by
 rcases List.mem_cons.1 hq with rfl | hq
 · exact .inl rfl
 · rw [List.mem_singleton] at hq
   subst hq
   exact .inr ⟨mcm mcs,h1⟩
theorem zkM {w W W':World} {t:Nat} {S T:St} {a a' b b':Option Addr} {n c n' c' m d m' d':Nat} (ht:w.heap.size<t) (h:Ms w w.heap.size (.slice none 0 0) (.slice none 0 0) [(t,stC (.slice a n c) (.slice a' n' c') S),(w.heap.size,zeC)] [(.slice a n c,S.d.f)] [(.slice a' n' c',S.g)] W) (k:StS W (.slice a n c) (.slice a' n' c') T (.slice b m d) (.slice b' m' d') W'):
 ∃Z,((((((((((W'.setCell ⟨t,0,none⟩ (.slice b m d)).setCell ⟨t,1,none⟩ (.int .i64 T.d.c)).setCell ⟨t,2,none⟩ (.bool T.d.a)).setCell ⟨t,3,none⟩ (.int .i64 T.d.l)).setCell ⟨t,4,none⟩ (.bool T.d.x)).setCell ⟨t,5,none⟩ (.int .i64 T.v)).setCell ⟨t,6,none⟩ (.slice b' m' d')).setCell ⟨t,7,none⟩ (.int .i64 T.x)).setCell ⟨t,8,none⟩ (.int .i64 T.s)).setCell ⟨t,9,none⟩ (.int .i64 T.z)).setCell ⟨t,10,none⟩ (.int .u32 T.c)=Z/\Pr w t T Z:=by
 obtain ⟨Z,h1,h2⟩:=(h.call2 mcs mcs k).lay11 (t:=t) (cs':=[(t,stC (.slice b m d) (.slice b' m' d') T),(w.heap.size,zeC)]) mcs (.slice b m d) (.int .i64 T.d.c) (.bool T.d.a) (.int .i64 T.d.l) (.bool T.d.x) (.int .i64 T.v) (.slice b' m' d') (.int .i64 T.x) (.int .i64 T.s) (.int .i64 T.z) (.int .u32 T.c) (tw (by show w.heap.size≠t;omega));exact ⟨Z,h1,_,_,_,_,_,_,h2.sub (fun _ h=>h) (fun p hp=>by rw [List.mem_singleton] at hp;rw [hp];exact mcs) (fun p hp=>by rw [List.mem_singleton] at hp;rw [hp];exact mcs)⟩
def Ok13 (l:List Lg.Pa):Prop:=l.length<=40/\∀a∈l,a.d.size<=64
def PlOut (w:World) (q:Int) (l:List Lg.Pa) (e:Ending) (w':World):Prop:=∃a n c a' n' c' S b,e= .returned (.tuple #[zag (.slice a n c) (.slice a' n' c') S,.bool b])/\Below w.heap.size w w'/\(b=true->l.length<=40/\S=Lg.playL q l l.length/\StS w (.slice none 0 0) (.slice none 0 0) S (.slice a n c) (.slice a' n' c') w')/\(Ok13 l->b=true)
theorem zdB (q:Int) (pa:Option Addr) (pn pc:Nat) (l:List Lg.Pa) (w:World) (hq:0<q/\q<=1000) (hl:IsL PaL w (.slice pa pn pc) l):
 Calls Tryz.prog 6 #[.int .i64 q,.slice pa pn pc] w (PlOut w q l):=by
 have hln:=hl.len.1;have hlm:=hl.len.2;unfold maxLen at hlm;have HL:=zid hl;have HLN:=zid hln;have CQ:=zid fun W:World=>zcz none 0 0 Dp.empty W 0 (IsL.nil W none 0) zlL (by decide);have G0:=zid (show G13 q 0 0 (zal Dp.empty).1 from G13.new (by omega));have HA:∀a∈l,a.n<=9223372036854775807:=fun a ha=>(hl.ok a ha).2.1.2;have HG:=zid fun n (hn:n<=40)=>G13.acts hq.1 l HA n hn;have HOK:=zid hl.ok;have R0:=zid (heap_alloc_new w (.cells #[.slice none 0 0,.int .i64 0,.bool false,.int .i64 0,.bool false,.int .i64 0,.slice none 0 0,.int .i64 0,.int .i64 0,.int .i64 0,.int .u32 0] 31));have RB:=zid ((Below.refl w.heap.size w).alloc (Nat.le_refl _) (.cells #[.slice none 0 0,.int .i64 0,.bool false,.int .i64 0,.bool false,.int .i64 0,.slice none 0 0,.int .i64 0,.int .i64 0,.int .i64 0,.int .u32 0] 31));have HP0:=zid (show Lg.playL q l 0=(zal Dp.empty).1 from rfl);have h10:=Lg.Log.new (q:=q) (by omega);obtain ⟨⟨S0,E0⟩,hc⟩:∃R,zal Dp.empty=R:=⟨_,rfl⟩;rw [hc] at CQ HP0
 obtain rfl:E0=0:=by have:=h10.1;rw [hc] at this;exact this
 dsimp only at HP0;unfold zac at CQ;clear hl hln HA hc h10 G0
 go_enter Tryz.func6,Tryz.ntmps6
 go_wp2_with fail;generalize World.alloc w _=w0 at R0 RB ⊢;refine (CQ.out _).mono ?_;rintro e w1 ⟨a1,n1,c1,a2,n2,c2,rfl,ks⟩
 have P1:=zid (show Pr w w1.heap.size S0 (w1.alloc (stC (.slice a1 n1 c1) (.slice a2 n2 c2) S0)) from by
  have M0:Ms w w.heap.size (.slice none 0 0) (.slice none 0 0) [(w.heap.size,zeC)] [(.slice none 0 0,([]:List Dp.Fl))] [(.slice none 0 0,([]:List Rt.Sg))] w0:=⟨fun p hp=>by rw [List.mem_singleton] at hp;subst hp;exact ⟨Nat.le_refl _,R0.out⟩,fun p hp=>by rw [List.mem_singleton] at hp;subst hp;exact ⟨IsL.nil _ _ _,fun _ _=>Sep.nil _ _ _,fun _ _ _ _=>Sep.nil _ _ _⟩,fun p hp=>by rw [List.mem_singleton] at hp;subst hp;exact ⟨IsL.nil _ _ _,fun _ _=>Sep.nil _ _ _,fun _ _ _ _=>Sep.nil _ _ _⟩,RB.out.size,RB.out⟩;have M1:=(M0.call2 mcs mcs ks).alloc #[.slice a1 n1 c1,.int .i64 S0.d.c,.bool S0.d.a,.int .i64 S0.d.l,.bool S0.d.x,.int .i64 S0.v,.slice a2 n2 c2,.int .i64 S0.x,.int .i64 S0.s,.int .i64 S0.z,.int .u32 S0.c] 31
  exact ⟨_,_,_,_,_,_,M1.sub (fun _ h=>h) (fun p hp=>by rw [List.mem_singleton] at hp;rw [hp];exact mcs) (fun p hp=>by rw [List.mem_singleton] at hp;rw [hp];exact mcs)⟩)
 have htt:w.heap.size<w1.heap.size:=Nat.lt_of_lt_of_le (Array.getElem?_eq_some_iff.1 R0.out).1 ks.w.size;clear ks R0 RB CQ;unfold zag;unfold stC at P1;dsimp only;go_upto_region 2 with (fail);generalize w1.alloc _=W1 at P1 ⊢;generalize w1.heap.size=t at P1 htt ⊢
 by_cases h40:40<pn
 case pos=>
  have hi:(40:Int)<(pn:Int):=by omega
  obtain ⟨a,n,c,a',n',c',M⟩:=P1.out;have HM:=zid M;obtain ⟨⟨k0,k1,k2,k3,k4⟩,k5,k6,k7,k8,k9,k10⟩:=zab (M.at_ (t:=t) mcs);obtain ⟨⟨q0,q1,q2,q3,q4⟩,q5,q6,q7,q8,q9,q10⟩:=zab (M.at_ (t:=w.heap.size) (mcm mcs));have qf:=zaf (M.at_ (t:=w.heap.size) (mcm mcs));have HNO:=zid (show ¬Ok13 l from fun h=>by have:=h.1;have:=HLN.out;omega);clear M P1 h40 HOK HG HL HLN HP0;go_wp2_with fail;obtain ⟨Z,hZ,Z1⟩:=HM.out.lay11 (t:=w.heap.size) (cs':=[(w.heap.size,stC (.slice a n c) (.slice a' n' c') S0)]) (mcm mcs) (.slice a n c) (.int .i64 S0.d.c) (.bool S0.d.a) (.int .i64 S0.d.l) (.bool S0.d.x) (.int .i64 S0.v) (.slice a' n' c') (.int .i64 S0.x) (.int .i64 S0.s) (.int .i64 S0.z) (.int .u32 S0.c) (fun p hp=> .inl (List.mem_singleton.1 hp));rw [hZ];obtain ⟨⟨z0,z1,z2,z3,z4⟩,z5,z6,z7,z8,z9,z10⟩:=zab (Z1.at_ (t:=w.heap.size) mcs);refine bodyPost_ret (v:= .tuple #[.agg #[.slice a n c,.int .i64 S0.d.c,.bool S0.d.a,.int .i64 S0.d.l,.bool S0.d.x,.int .i64 S0.v,.slice a' n' c',.int .i64 S0.x,.int .i64 S0.s,.int .i64 S0.z,.int .u32 S0.c],.bool false]) (by simp [results,Tryz.results6,go_sem,z0,z1,z2,z3,z4,z5,z6,z7,z8,z9,z10]) rfl ?_;exact ⟨_,_,_,_,_,_,S0,false,rfl,Z1.w,fun h=>(by cases h),fun h=>absurd h HNO.out⟩
 case neg=>
 have hp40:pn<=40:=by omega
 have hi:¬(40:Int)<(pn:Int):=by omega
 have P2:=zid (show Pr w t (Lg.playL q l 0) W1 from by rw [HP0.out];exact P1.out);clear P1 h40 hlm HP0;go_wp2_with fail
 go_loopw [8] (fun i wr=>∃k:Nat,k<=pn/\i= .int .i64 k/\Hid (Pr w t (Lg.playL q l k) wr)) (fun i _=>pn-(intOf i).toNat)
 case atStart=>exact ⟨0,Nat.zero_le _,rfl,P2⟩
 case round=>
  clear P2 hi;obtain ⟨k,hk,rfl,HP⟩:=hrel
  by_cases hlt:k<pn
  · obtain ⟨ab,ao,rfl,c0,c1,c2,c3⟩:=pa_at (HL.out.keep HP.out.w) hlt
    have hab:=block_lt_of_cell c0
    have hGk:=HG.out k (by omega);have hac:PaB (l.getD k paz):=HOK.out _ (by rw [zao (by rw [<-HLN.out];exact hlt)];exact List.getElem_mem _);have HS:=zid (show Lg.playL q l (k+1)=Lg.playA q k (Lg.playL q l k) (l.getD k paz) from Lg.playL_succ q l k);have HMEM:=zid (show l.getD k paz∈l from by rw [zao (by rw [<-HLN.out];exact hlt)];exact List.getElem_mem _);obtain ⟨S,hS⟩:∃S,Lg.playL q l k=S:=⟨_,rfl⟩;rw [hS] at HP hGk HS;have HSS:=zid hS;generalize l.getD k paz=ac at*;have HAC:=zid hac;have hdz:ac.d.size<=9223372036854775807:=hac.2.2.2;have HGK:=zid hGk;clear hS hac hGk;have HNO:=zid (show 64<ac.d.size->¬Ok13 l from fun hd h=>by have:=h.2 ac HMEM.out;omega)
    by_cases hd:64<ac.d.size
    case pos=>
     have hdi:(64:Int)<(ac.d.size:Int):=by omega
     replace HNO:=zid (HNO.out hd);obtain ⟨a,n,c,a',n',c',M⟩:=HP.out;have HM:=zid M;obtain ⟨⟨k0,k1,k2,k3,k4⟩,k5,k6,k7,k8,k9,k10⟩:=zab (M.at_ (t:=t) mcs);obtain ⟨⟨q0,q1,q2,q3,q4⟩,q5,q6,q7,q8,q9,q10⟩:=zab (M.at_ (t:=w.heap.size) (mcm mcs));have qf:=zaf (M.at_ (t:=w.heap.size) (mcm mcs));clear M HP hd;go_wp2_with fail;obtain ⟨Z,hZ,Z1⟩:=HM.out.lay11 (t:=w.heap.size) (cs':=[(w.heap.size,stC (.slice a n c) (.slice a' n' c') S)]) (mcm mcs) (.slice a n c) (.int .i64 S.d.c) (.bool S.d.a) (.int .i64 S.d.l) (.bool S.d.x) (.int .i64 S.v) (.slice a' n' c') (.int .i64 S.x) (.int .i64 S.s) (.int .i64 S.z) (.int .u32 S.c) (fun p hp=> .inl (List.mem_singleton.1 hp));rw [hZ];obtain ⟨⟨z0,z1,z2,z3,z4⟩,z5,z6,z7,z8,z9,z10⟩:=zab (Z1.at_ (t:=w.heap.size) mcs);refine bodyPost_ret (v:= .tuple #[.agg #[.slice a n c,.int .i64 S.d.c,.bool S.d.a,.int .i64 S.d.l,.bool S.d.x,.int .i64 S.v,.slice a' n' c',.int .i64 S.x,.int .i64 S.s,.int .i64 S.z,.int .u32 S.c],.bool false]) (by simp [results,Tryz.results6,go_sem,z0,z1,z2,z3,z4,z5,z6,z7,z8,z9,z10]) rfl ?_;exact ⟨_,_,_,_,_,_,S,false,rfl,Z1.w,fun h=>(by cases h),fun h=>absurd h HNO.out⟩
    case neg=>
    have hdi:¬(64:Int)<(ac.d.size:Int):=by omega
    clear hd HNO HMEM;obtain ⟨a,n,c,a',n',c',M⟩:=HP.out;have HM:=zid M;have hne:=HGK.out.ne;have hstb:=HGK.out.stb hq.2 (by omega) (by omega);have hbd:=HGK.out.d;have hvv:=HGK.out.v
    by_cases hk1:ac.k=1
    case pos=>
     have e1:(ac.k==1)=true:=by simpa using hk1
     have SY:=fun (W:World) (h1:IsL FL W (.slice a n c) S.d.f) (h2:IsL Rts.SL W (.slice a' n' c') S.g)=>zda a a' n c n' c' S W _ h1 h2 hne hstb hbd (by omega)
     have HT:Lg.playA q k S ac=(zat S).1:=by unfold Lg.playA;rw [if_pos hk1]
     obtain ⟨⟨T,E⟩,hT⟩:∃R,zat S=R:=⟨_,rfl⟩;rw [hT] at SY HT;replace HS:=zid (HS.out.trans HT);unfold zag at SY;replace SY:=zid SY;obtain ⟨⟨k0,k1,k2,k3,k4⟩,k5,k6,k7,k8,k9,k10⟩:=zab (M.at_ (t:=t) mcs);clear M HP hT HT hk1 hne hstb hbd hvv;go_wp2_with fail;refine (SY.out _ (HM.out.fl mcs) (HM.out.sl mcs)).mono ?_;rintro e w5 ⟨b5,n5,d5,b6,n6,d6,rfl,ks⟩;have LY:=zid (zkM htt HM.out ks);have kf:=zaf (hkeep (HM.out.at_ (t:=t) mcs) ks.w);have kk:=zab (hkeep (HM.out.at_ (t:=t) mcs) ks.w);clear k0 k1 k2 k3 k4 k5 k6 k7 k8 k9 k10 ks SY;obtain ⟨⟨k0,k1,k2,k3,k4⟩,k5,k6,k7,k8,k9,k10⟩:=kk;unfold zag;go_upto_region 6 with (fail);obtain ⟨Z,hZ,PZ⟩:=LY.out;rw [hZ];have HPZ:=zid PZ;clear hZ PZ LY k0 k1 k2 k3 k4 k5 k6 k7 k8 k9 k10 kf;go_wp2_with fail
     go_roundw
     case rel=>exact ⟨k+1,by omega,by go_num,zid (by rw [HS.out];exact HPZ.out)⟩
     case measure=>simp [intOf];omega
    case neg=>
    have e1:(ac.k==1)=false:=by simpa using hk1
    by_cases hk2:ac.k=2
    case pos=>
     have e2:(ac.k==2)=true:=by simpa using hk2
     have hpk:=Lg.pickN_is S.g ac.n ac.m;have hpl:=hpk.lt.2 (List.length_pos_iff.2 hne)
     have hw:fewP (Lg.stateT S (Lg.trimF S (Lg.pickN S.g ac.n ac.m)))=true/\(Lg.trimB S (Lg.pickN S.g ac.n ac.m)).length<=3000:=by
      obtain ⟨F,s0,rs,hL,hl⟩:=HGK.out.log;exact zgI hL (by omega) hpl
     have TR:=fun (W:World) (h1:IsL FL W (.slice a n c) S.d.f) (h2:IsL Rts.SL W (.slice a' n' c') S.g)=>zht a a' n c n' c' S ac.n ac.m (Lg.pickN S.g ac.n ac.m) W _ h1 h2 hne hstb hbd (by omega) (by omega) (HGK.out.may hq.2 (by omega)) hpk hw.1 hw.2
     have HT:Lg.playA q k S ac=(Lg.trimK S (Lg.pickN S.g ac.n ac.m)).1:=by unfold Lg.playA;rw [if_neg hk1,if_pos hk2];rfl
     obtain ⟨⟨T,E⟩,hT⟩:∃R,Lg.trimK S (Lg.pickN S.g ac.n ac.m)=R:=⟨_,rfl⟩;rw [hT] at TR HT;replace HS:=zid (HS.out.trans HT);unfold zag at TR;replace TR:=zid TR;clear M HP hT HT hk1 hk2 hne hstb hbd hvv hpk hpl hw;go_upto_region 14 with (fail);have PD:=zid (HM.out.keep (W':=wr.drew) (Below.refl _ _).drew);obtain ⟨⟨k0,k1,k2,k3,k4⟩,k5,k6,k7,k8,k9,k10⟩:=zab (PD.out.at_ (t:=t) mcs)
     replace c0:=show wr.drew.cell? ⟨ab,ao+k*4,none⟩=_ from c0
     replace c1:=show wr.drew.cell? ⟨ab,ao+k*4+1,none⟩=_ from c1
     replace c2:=show wr.drew.cell? ⟨ab,ao+k*4+2,none⟩=_ from c2
     replace c3:=show wr.drew.cell? ⟨ab,ao+k*4+3,none⟩=_ from c3
     go_region_with (first | (go_at_call 23;refine (TR.out _ (PD.out.fl mcs) (PD.out.sl mcs)).mono ?_;rintro e w5 ⟨b5,n5,d5,b6,n6,d6,rfl,ks⟩;have LY:=zid (zkM htt PD.out ks);have mf:=zaf (hkeep (PD.out.at_ (t:=t) mcs) ks.w);have mk:=zab (hkeep (PD.out.at_ (t:=t) mcs) ks.w);clear ks;obtain ⟨⟨m0,m1,m2,m3,m4⟩,m5,m6,m7,m8,m9,m10⟩:=mk;unfold zag))
     all_goals
      go_upto_region 6 with (fail)
      obtain ⟨Z,hZ,PZ⟩:=LY.out;rw [hZ];have HPZ:=zid PZ;clear hZ PZ LY k0 k1 k2 k3 k4 k5 k6 k7 k8 k9 k10 m0 m1 m2 m3 m4 m5 m6 m7 m8 m9 m10 mf;go_wp2_with fail
      go_roundw
      case rel=>exact ⟨k+1,by omega,by go_num,zid (by rw [HS.out];exact HPZ.out)⟩
      case measure=>simp [intOf];omega
    case neg=>
    have e2:(ac.k==2)=false:=by simpa using hk2
    by_cases hk3:ac.k=3
    case pos=>
     have e3:(ac.k==3)=true:=by simpa using hk3
     have AR:=fun (W:World) (h1:IsL FL W (.slice a n c) S.d.f)=>Dsk.rarm_val (.slice a n c) S.d ac.n W h1
     have HT:Lg.playA q k S ac={S with d:=Dp.arm S.d ac.n}:=by unfold Lg.playA;rw [if_neg hk1,if_neg hk2,if_pos hk3]
     replace HS:=zid (HS.out.trans HT);unfold zac at AR;replace AR:=zid AR;clear M HP HT hk1 hk2 hk3 hne hstb hbd hvv;go_upto_region 16 with (fail);have PD:=zid (HM.out.keep (W':=wr.drew) (Below.refl _ _).drew);obtain ⟨⟨k0,k1,k2,k3,k4⟩,k5,k6,k7,k8,k9,k10⟩:=zab (PD.out.at_ (t:=t) mcs)
     replace c0:=show wr.drew.cell? ⟨ab,ao+k*4,none⟩=_ from c0
     replace c1:=show wr.drew.cell? ⟨ab,ao+k*4+1,none⟩=_ from c1
     go_region_with (first | (go_at_call 19;refine (AR.out _ (PD.out.fl mcs)).mono ?_;rintro e w5 ⟨rfl,b5⟩;have P5:=zid (PD.out.keep b5);have mf:=zaf (P5.out.at_ (t:=t) mcs);have mk:=zab (P5.out.at_ (t:=t) mcs);clear b5;obtain ⟨⟨m0,m1,m2,m3,m4⟩,m5,m6,m7,m8,m9,m10⟩:=mk))
     all_goals
      go_upto_region 6 with (fail)
      obtain ⟨Z,hZ,MZ⟩:=P5.out.layD (t:=t) (cs':=[(t,stC (.slice a n c) (.slice a' n' c') {S with d:=Dp.arm S.d ac.n}),(w.heap.size,zeC)]) mcs (.slice a n c) (.int .i64 (Dp.arm S.d ac.n).c) (.bool (Dp.arm S.d ac.n).a) (.int .i64 (Dp.arm S.d ac.n).l) (.bool (Dp.arm S.d ac.n).x) (tw (by show w.heap.size≠t;omega))
      rw [hZ]
      have HPZ:=zid (show Pr w t {S with d:=Dp.arm S.d ac.n} Z from ⟨_,_,_,_,_,_,MZ⟩)
      clear hZ MZ P5 k0 k1 k2 k3 k4 k5 k6 k7 k8 k9 k10 m0 m1 m2 m3 m4 m5 m6 m7 m8 m9 m10 mf;go_wp2_with fail
      go_roundw
      case rel=>exact ⟨k+1,by omega,by go_num,zid (by rw [HS.out];exact HPZ.out)⟩
      case measure=>simp [intOf];omega
    case neg=>
    have e3:(ac.k==3)=false:=by simpa using hk3
    by_cases hk4:ac.k=4
    case pos=>
     have e4:(ac.k==4)=true:=by simpa using hk4
     have AR:=fun (W:World) (h1:IsL FL W (.slice a n c) S.d.f)=>Dsk.rlimit_val (.slice a n c) S.d ac.n W h1
     have HT:Lg.playA q k S ac={S with d:=Dp.limit S.d ac.n}:=by unfold Lg.playA;rw [if_neg hk1,if_neg hk2,if_neg hk3,if_pos hk4]
     replace HS:=zid (HS.out.trans HT);unfold zac at AR;replace AR:=zid AR;clear M HP HT hk1 hk2 hk3 hk4 hne hstb hbd hvv;go_upto_region 18 with (fail);have PD:=zid (HM.out.keep (W':=wr.drew) (Below.refl _ _).drew);obtain ⟨⟨k0,k1,k2,k3,k4⟩,k5,k6,k7,k8,k9,k10⟩:=zab (PD.out.at_ (t:=t) mcs)
     replace c0:=show wr.drew.cell? ⟨ab,ao+k*4,none⟩=_ from c0
     replace c1:=show wr.drew.cell? ⟨ab,ao+k*4+1,none⟩=_ from c1
     go_region_with (first | (go_at_call 24;refine (AR.out _ (PD.out.fl mcs)).mono ?_;rintro e w5 ⟨rfl,b5⟩;have P5:=zid (PD.out.keep b5);have mf:=zaf (P5.out.at_ (t:=t) mcs);have mk:=zab (P5.out.at_ (t:=t) mcs);clear b5;obtain ⟨⟨m0,m1,m2,m3,m4⟩,m5,m6,m7,m8,m9,m10⟩:=mk))
     all_goals
      go_upto_region 6 with (fail)
      obtain ⟨Z,hZ,MZ⟩:=P5.out.layD (t:=t) (cs':=[(t,stC (.slice a n c) (.slice a' n' c') {S with d:=Dp.limit S.d ac.n}),(w.heap.size,zeC)]) mcs (.slice a n c) (.int .i64 (Dp.limit S.d ac.n).c) (.bool (Dp.limit S.d ac.n).a) (.int .i64 (Dp.limit S.d ac.n).l) (.bool (Dp.limit S.d ac.n).x) (tw (by show w.heap.size≠t;omega))
      rw [hZ]
      have HPZ:=zid (show Pr w t {S with d:=Dp.limit S.d ac.n} Z from ⟨_,_,_,_,_,_,MZ⟩)
      clear hZ MZ P5 k0 k1 k2 k3 k4 k5 k6 k7 k8 k9 k10 m0 m1 m2 m3 m4 m5 m6 m7 m8 m9 m10 mf;go_wp2_with fail
      go_roundw
      case rel=>exact ⟨k+1,by omega,by go_num,zid (by rw [HS.out];exact HPZ.out)⟩
      case measure=>simp [intOf];omega
    case neg=>
     have e4:(ac.k==4)=false:=by simpa using hk4
     have hxb:=hstb.x;have AP:=fun (W:World) (h1:IsL FL W (.slice a n c) S.d.f) (h2:IsL Rts.SL W (.slice a' n' c') S.g)=>zdr a a' n c n' c' S q ⟨S.x,k,ac.d⟩ W _ h1 h2 hne hstb hbd (by omega) (by omega) ⟨by show _<=S.x;omega,by show S.x<=_;omega,by show _<=(k:Int);omega,by show (k:Int)<=_;omega,hdz⟩
     have HT:Lg.playA q k S ac=(So.append S q ⟨S.x,k,ac.d⟩).1:=by unfold Lg.playA;rw [if_neg hk1,if_neg hk2,if_neg hk3,if_neg hk4]
     obtain ⟨⟨T,E⟩,hT⟩:∃R,So.append S q ⟨S.x,k,ac.d⟩=R:=⟨_,rfl⟩;rw [hT] at AP HT;replace HS:=zid (HS.out.trans HT);unfold zag zbm at AP;dsimp only at AP;replace AP:=zid AP;clear M HP hT HT hk1 hk2 hk3 hk4 hne hstb hbd hvv hxb;go_upto_region 10 with (fail);have PD:=zid (HM.out.keep (W':=wr.drew) (Below.refl _ _).drew);obtain ⟨⟨k0,k1,k2,k3,k4⟩,k5,k6,k7,k8,k9,k10⟩:=zab (PD.out.at_ (t:=t) mcs)
     replace c0:=show wr.drew.cell? ⟨ab,ao+k*4,none⟩=_ from c0
     replace c1:=show wr.drew.cell? ⟨ab,ao+k*4+1,none⟩=_ from c1
     replace c2:=show wr.drew.cell? ⟨ab,ao+k*4+2,none⟩=_ from c2
     replace c3:=show wr.drew.cell? ⟨ab,ao+k*4+3,none⟩=_ from c3
     go_region_with (first | (go_at_call 16;refine (AP.out _ (PD.out.fl mcs) (PD.out.sl mcs)).mono ?_;rintro e w5 ⟨b5,n5,d5,b6,n6,d6,rfl,ks⟩;have LY:=zid (zkM htt PD.out ks);have mf:=zaf (hkeep (PD.out.at_ (t:=t) mcs) ks.w);have mk:=zab (hkeep (PD.out.at_ (t:=t) mcs) ks.w);clear ks;obtain ⟨⟨m0,m1,m2,m3,m4⟩,m5,m6,m7,m8,m9,m10⟩:=mk;unfold zag))
     all_goals
      go_upto_region 6 with (fail)
      obtain ⟨Z,hZ,PZ⟩:=LY.out;rw [hZ];have HPZ:=zid PZ;clear hZ PZ LY k0 k1 k2 k3 k4 k5 k6 k7 k8 k9 k10 m0 m1 m2 m3 m4 m5 m6 m7 m8 m9 m10 mf;go_wp2_with fail
      go_roundw
      case rel=>exact ⟨k+1,by omega,by go_num,zid (by rw [HS.out];exact HPZ.out)⟩
      case measure=>simp [intOf];omega
  · obtain rfl:k=pn:=by omega
    have HLE:=zid (show Lg.playL q l k=Lg.playL q l l.length by rw [<-HLN.out])
    obtain ⟨S,hS⟩:∃S,Lg.playL q l k=S:=⟨_,rfl⟩;rw [hS] at HP HLE;obtain ⟨a,n,c,a',n',c',M⟩:=HP.out;have HM:=zid M;obtain ⟨⟨k0,k1,k2,k3,k4⟩,k5,k6,k7,k8,k9,k10⟩:=zab (M.at_ (t:=t) mcs);obtain ⟨⟨q0,q1,q2,q3,q4⟩,q5,q6,q7,q8,q9,q10⟩:=zab (M.at_ (t:=w.heap.size) (mcm mcs));have qf:=zaf (M.at_ (t:=w.heap.size) (mcm mcs));clear M HP hS;go_wp2_with fail;obtain ⟨Z,hZ,Z1⟩:=HM.out.lay11 (t:=w.heap.size) (cs':=[(w.heap.size,stC (.slice a n c) (.slice a' n' c') S)]) (mcm mcs) (.slice a n c) (.int .i64 S.d.c) (.bool S.d.a) (.int .i64 S.d.l) (.bool S.d.x) (.int .i64 S.v) (.slice a' n' c') (.int .i64 S.x) (.int .i64 S.s) (.int .i64 S.z) (.int .u32 S.c) (fun p hp=> .inl (List.mem_singleton.1 hp));rw [hZ];obtain ⟨⟨z0,z1,z2,z3,z4⟩,z5,z6,z7,z8,z9,z10⟩:=zab (Z1.at_ (t:=w.heap.size) mcs);refine bodyPost_ret (v:= .tuple #[.agg #[.slice a n c,.int .i64 S.d.c,.bool S.d.a,.int .i64 S.d.l,.bool S.d.x,.int .i64 S.v,.slice a' n' c',.int .i64 S.x,.int .i64 S.s,.int .i64 S.z,.int .u32 S.c],.bool true]) (by simp [results,Tryz.results6,go_sem,z0,z1,z2,z3,z4,z5,z6,z7,z8,z9,z10]) rfl ?_;exact ⟨_,_,_,_,_,_,S,true,rfl,Z1.w,fun _=>⟨by rw [<-HLN.out];exact hp40,HLE.out,Z1.sts mcs mcs⟩,fun _=>rfl⟩
end Trm
namespace Trm
open Go.RowKit Go.ChangeShapes Go.WideShapes Go.Deep Go.Joins Dsk
theorem zd4 {n:Int} (h:(Lit.int .i64 n).wf=true): -9223372036854775808<=n/\n<=9223372036854775807:=by
 simpa [Lit.wf,IntKind.min,IntKind.max,IntKind.signed,IntKind.bits] using h
theorem u8_wf13 {n:Int} (h:(Lit.int .u8 n).wf=true):0<=n/\n<=255:=by
 simpa [Lit.wf,IntKind.min,IntKind.max,IntKind.signed,IntKind.bits] using h
theorem isL_of13 {α:Type} {Y:Lay α} {w:World} {b off cap:Nat} {l:List α} (hm:l.length<=maxLen) (hcap:l.length<=cap) (hok:∀x∈l,Y.ok x)
 (hc:∀i,i<l.length->∀r u,(Y.enc (l.getD i Y.z))[r]?=some u->w.cell? ⟨b,off+(i*Y.k+r),none⟩=some u):IsL Y w (.slice (some ⟨b,off,none⟩) l.length cap) l:=by
 refine ⟨_,cap,rfl,⟨hm,hcap⟩,hok,.inr ⟨b,off,rfl,fun j u hj=>?_⟩⟩;have hlt:=(List.getElem?_eq_some_iff.1 hj).1;rw [Y.vals_len] at hlt;have hk:=Y.pos;have h1:j/Y.k<l.length:=Nat.div_lt_of_lt_mul (by rw [Nat.mul_comm];exact hlt);have h2:j%Y.k<Y.k:=Nat.mod_lt _ hk
 have e:j=j/Y.k*Y.k+j%Y.k:=by rw [Nat.mul_comm];exact (Nat.div_add_mod j Y.k).symm
 have h3:=Y.vals_get l (j/Y.k) (j%Y.k) h1 h2;rw [<-e,hj] at h3;have:=hc (j/Y.k) h1 (j%Y.k) u h3.symm
 rwa [<-e] at this
section
variable {H:Type} {enc:TypeId×Value->H} {w:World} {base:Nat} {spare:Nat->Bool} {held:Bool}
theorem open_paC {n:Nat} {cs:List Value} {y:DataW H×List MemPlace} (h:DataW.trod enc Tryz.prog w base spare held n 22 cs=some y):∃a l c ms,cs=[.slice a l c]/\IsL PaL w (.slice a l c) ms:=by
 rcases open_slice Tryz.underlying22 h with ⟨hc,_⟩ | ⟨x,len,cap,m,n,D,Pl,hc,_,hl,hm,hmm,_,hi⟩
 · exact ⟨none,0,0,[],hc,IsL.nil w none 0⟩
 · refine ⟨some x,len,cap,?_⟩
   have hlm:len<=m:=by rw [hmm];split<;>omega
   have hC:Tryz.prog.cellsOf 60=4:=by kernel_rfl
   have hO:Tryz.prog.cellsOf 3=1:=by kernel_rfl
   have hS:Tryz.prog.cellsOf 9=1:=by kernel_rfl
   rw [hC] at hi
   have key:∀i,i<len->∃r:Lg.Pa,PaB r/\∀j u,(zfz r)[j]?=some u->w.cell? ((x.add (i*4)).add j)=some u:=by
    intro i hil;obtain ⟨cs',hcs,ht⟩:=hi i (by omega);obtain ⟨_,hlen,hat⟩:=World.cells?_some hcs
    obtain ⟨c0,c1,c2,c3,rfl⟩:∃c0 c1 c2 c3,cs'=[c0,c1,c2,c3]:=by
     match cs',hlen with
     | [c0,c1,c2,c3],_=>exact ⟨c0,c1,c2,c3,rfl⟩
    obtain ⟨y0,y1,y2,y3,n',_,_,h0,h1,h2,h3⟩:=trod_struct4 Tryz.underlying60 ht;obtain ⟨rb,hb,_,wb⟩:=DataW.trod_int Tryz.underlying3 h0;obtain ⟨rn,hn,_,wn⟩:=DataW.trod_int Tryz.underlying3 h1;obtain ⟨rm,hm',_,wm⟩:=DataW.trod_int Tryz.underlying3 h2;obtain ⟨rz,hz,_,wz⟩:=DataW.trod_string Tryz.underlying9 h3
    simp [hO,hS] at hb hn hm' hz
    subst hb hn hm' hz;unfold maxLen at wz;refine ⟨⟨rb,rn,rm,rz⟩,⟨zd4 wb,zd4 wn,zd4 wm,wz⟩,fun j u hj=>?_⟩;have hjl:j<4:=(List.getElem?_eq_some_iff.1 hj).1;have:=hat j hjl;exact this.trans hj
   obtain ⟨f,hf'⟩:∃f:Nat->Lg.Pa,∀i,i<len->PaB (f i)/\∀j u,(zfz (f i))[j]?=some u->w.cell? ((x.add (i*4)).add j)=some u:=by
    refine ⟨fun i=>if h:i<len then Classical.choose (key i h) else paz,fun i h=>?_⟩;simp only [dif_pos h];exact Classical.choose_spec (key i h)
   have hlen:((List.range len).map f).length=len:=by simp
   have hall:∀r∈(List.range len).map f,PaB r:=fun r hr=>by
    rw [List.mem_map] at hr;obtain ⟨i,hi',rfl⟩:=hr;exact (hf' i (by simpa using hi')).1
   refine ⟨(List.range len).map f,hc,?_⟩
   by_cases h0:len=0
   · subst h0
     exact IsL.nil w _ cap
   · obtain ⟨b,off,spot⟩:=x
     have h1:=(hf' 0 (by omega)).2 0 _ rfl
     rw [Nat.zero_mul] at h1
     have hspot:spot=none:=by simpa [Addr.add] using World.cell?_spot h1
     subst hspot
     have:=isL_of13 (Y:=PaL) (w:=w) (b:=b) (off:=off) (cap:=cap) (l:=(List.range len).map f) (by rw [hlen];omega) (by rw [hlen];exact hl) hall (fun i hi' r u hu=>by
      rw [hlen] at hi'
      have e:((List.range len).map f).getD i PaL.z=f i:=by simp [List.getD_eq_getElem?_getD,hi']
      rw [e] at hu;have:=(hf' i hi').2 r u hu;rw [zak,zak] at this;rw [<-Nat.add_assoc]
      exact this)
     rw [hlen] at this;exact this
end
end Trm
namespace Ins
open Go.RowKit Go.ChangeShapes Go.WideShapes Go.Deep Go.Joins Dsk Trm
structure Ask15 where
 q:Int
 a:Option Addr
 n:Nat
 c:Nat
 l:List Lg.Pa
 x:Int
 s:ByteArray
def Ask15.val (g:Ask15):Value:= .agg #[.int .u8 g.q,.slice g.a g.n g.c,.int .i64 g.x,.string g.s]
structure Ask15.Ok (w:World) (g:Ask15):Prop where
 q:0<=g.q/\g.q<=255
 l:IsL PaL w (.slice g.a g.n g.c) g.l
 x: -9223372036854775808<=g.x/\g.x<=9223372036854775807
 s:g.s.size<=maxLen
section
variable {H:Type} {enc:TypeId×Value->H} {w:World} {base:Nat} {spare:Nat->Bool} {held:Bool}
theorem open_ask15 {r:Reach} {b0:Nat} {v:Value} {d:DataW H} {p:List MemPlace}
 (hv:Value.okWide Tryz.prog w r b0 24 v) (h:DataW.Trod enc Tryz.prog w base spare held 24 v d p):∃x:Ask15,v=x.val/\x.Ok w:=by
 have hC:Tryz.prog.cellsOf 24=4:=by kernel_rfl
 have hS:Tryz.prog.cellsOf 22=1:=by kernel_rfl
 have hU:Tryz.prog.cellsOf 5=1:=by kernel_rfl
 have hI:Tryz.prog.cellsOf 3=1:=by kernel_rfl
 have hT:Tryz.prog.cellsOf 9=1:=by kernel_rfl
 obtain ⟨cs,rfl,hsz⟩:=okWide_struct Tryz.underlying24 hv;obtain ⟨l⟩:=cs
 match l,hsz.trans hC with
 | [c0,c1,c2,c3],_=>
  obtain ⟨fuel,hf⟩:=h;obtain ⟨y0,y1,y2,y3,n,_,_,h0,h1,h2,h3⟩:=trod_struct4 Tryz.underlying24 hf
  simp [Value.cells,hS,hU,hI,hT] at h0 h1 h2 h3
  obtain ⟨rq,hq,_,wq⟩:=DataW.trod_int Tryz.underlying5 h0;obtain ⟨ka,kn,kc,ks,hkc,hks⟩:=open_paC h1;obtain ⟨rx,hx,_,wx⟩:=DataW.trod_int Tryz.underlying3 h2;obtain ⟨rs,hs,_,ws⟩:=DataW.trod_string Tryz.underlying9 h3;simp at hq hkc hx hs;subst hq hkc hx hs;exact ⟨⟨rq,ka,kn,kc,ks,rx,rs⟩,rfl,⟨u8_wf13 wq,hks,zd4 wx,ws⟩⟩
end
end Ins
namespace Trm
open Go.RowKit So Dsk Rts Sto
section
variable {w0 W:World}
end
theorem ms0 {w W:World} {t:Nat} {o:Obj} (ho:W.heap[t]?=some o) (ht:w.heap.size<=t) (b:Below w.heap.size w W):Ms w w.heap.size (.slice none 0 0) (.slice none 0 0) [(t,o)] [(.slice none 0 0,([]:List Dp.Fl))] [(.slice none 0 0,([]:List Rt.Sg))] W:=
 ⟨fun p hp=>by rw [List.mem_singleton] at hp;subst hp;exact ⟨ht,ho⟩,fun p hp=>by rw [List.mem_singleton] at hp;subst hp;exact ⟨IsL.nil _ _ _,fun _ _=>Sep.nil _ _ _,fun _ _ _ _=>Sep.nil _ _ _⟩,fun p hp=>by rw [List.mem_singleton] at hp;subst hp;exact ⟨IsL.nil _ _ _,fun _ _=>Sep.nil _ _ _,fun _ _ _ _=>Sep.nil _ _ _⟩,b.size,b⟩
theorem zkO {q:Int} {l:List Lg.Pa} (hq:0<q) (hl:∀a∈l,PaB a) (hn:l.length<=40):G13 q 40 40 (Lg.playL q l l.length):=
 (G13.acts hq l (fun a ha=>(hl a ha).2.1.2) l.length hn).more hn hn
section
variable {w0 W W':World} {h t x:Nat} {n0 n1:Int} {v1 u1 v2 u2:Value} {S X:St}
end
end Trm
namespace Ro
open Go.RowKit So Dsk Sto
structure Hv (w:World) (cs:List (Nat×Obj)) (fs:List (Value×List Dp.Fl)) (gs:List (Value×List Rt.Sg)) (W:World):Prop where
 c:∀p∈cs,W.heap[p.1]?=some p.2
 f:∀p∈fs,IsL FL W p.1 p.2
 g:∀p∈gs,IsL Rts.SL W p.1 p.2
 w:Below w.heap.size w W
section
variable {w W W':World} {cs:List (Nat×Obj)} {fs:List (Value×List Dp.Fl)} {gs:List (Value×List Rt.Sg)}
theorem Hv.keep (h:Hv w cs fs gs W) (k:Below W.heap.size W W'):Hv w cs fs gs W':=
 ⟨fun p hp=>hkeep (h.c p hp) k,fun p hp=>(h.f p hp).keep k,fun p hp=>(h.g p hp).keep k,h.w.trans (k.mono h.w.size)⟩
theorem Hv.al (h:Hv w cs fs gs W) (A:Array Value) (T:TypeId):Hv w ((W.heap.size,.cells A T)::cs) fs gs (W.alloc (.cells A T)):=by
 have k:=h.keep (zbI W (.cells A T));refine ⟨fun p hp=>?_,k.f,k.g,k.w⟩
 rcases List.mem_cons.1 hp with rfl | hp
 · exact heap_alloc_new W (.cells A T)
 · exact k.c p hp
theorem Hv.addf (h:Hv w cs fs gs W) {v:Value} {l:List Dp.Fl} (hl:IsL FL W v l):Hv w cs ((v,l)::fs) gs W:=
 ⟨h.c,fun p hp=>by
  rcases List.mem_cons.1 hp with rfl | hp
  · exact hl
  · exact h.f p hp,h.g,h.w⟩
theorem Hv.addg (h:Hv w cs fs gs W) {v:Value} {l:List Rt.Sg} (hl:IsL Rts.SL W v l):Hv w cs fs ((v,l)::gs) W:=
 ⟨h.c,h.f,fun p hp=>by
  rcases List.mem_cons.1 hp with rfl | hp
  · exact hl
  · exact h.g p hp,h.w⟩
theorem Hv.st (h:Hv w cs fs gs W) {v u v' u':Value} {T:St} (k:StS W v u T v' u' W'):Hv w cs ((v',T.d.f)::fs) ((u',T.g)::gs) W':=((h.keep k.w).addf k.f).addg k.g
theorem Hv.at_ (h:Hv w cs fs gs W) {t:Nat} {o:Obj} (hm:(t,o)∈cs):W.heap[t]?=some o:=h.c _ hm
theorem Hv.fl (h:Hv w cs fs gs W) {v:Value} {l:List Dp.Fl} (hm:(v,l)∈fs):IsL FL W v l:=h.f _ hm
theorem Hv.sl (h:Hv w cs fs gs W) {v:Value} {l:List Rt.Sg} (hm:(v,l)∈gs):IsL Rts.SL W v l:=h.g _ hm
end
theorem bd_arm {D:Dp.Dk} {k:Nat} (h:Bd D k) {i:Int} (hi:i<=9223372036854775807):Bd (Dp.arm D i) k:=
 ⟨⟨h.b.1,by show (-9223372036854775808:Int)<=max i 0;omega,by show max i 0<=(9223372036854775807:Int);omega⟩,⟨h.r.1,h.r.2.1,h.r.2.2.1,by show (0:Int)<=max i 0;omega⟩,h.n,h.u⟩
end Ro
end Go.Proofs.YtgmppfpllogdcaaGreat

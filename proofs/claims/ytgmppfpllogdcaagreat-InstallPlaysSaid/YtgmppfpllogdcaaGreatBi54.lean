/-
  Parts of what the laws of this seat stand on:InsRef,Law15P.
-/
import Derived.Test.YtgmppfpllogdcaaGreatBi1
import Derived.Laws.StructEq
import Derived.Test.YtgmppfpllogdcaaGreatBi12
import Derived.Test.YtgmppfpllogdcaaGreatBi13
import Derived.Test.YtgmppfpllogdcaaGreatBi14
import Derived.Test.YtgmppfpllogdcaaGreatBi18
import Derived.Test.YtgmppfpllogdcaaGreatBi19
import Derived.Test.YtgmppfpllogdcaaGreatBi33
import Derived.Test.YtgmppfpllogdcaaGreatBi35
import Derived.Test.YtgmppfpllogdcaaGreatBi40
import Derived.Test.YtgmppfpllogdcaaGreatBi41
import Derived.Test.YtgmppfpllogdcaaGreatBi43
import Derived.Test.YtgmppfpllogdcaaGreatBi44
import Derived.Test.YtgmppfpllogdcaaGreatBi45
import Derived.Test.YtgmppfpllogdcaaGreatBi46
import Derived.Test.YtgmppfpllogdcaaGreatBi51
import Derived.Test.YtgmppfpllogdcaaGreatBi52
import Derived.Test.YtgmppfpllogdcaaGreatBi53
set_option maxRecDepth 100000
set_option maxHeartbeats 6400000
namespace Go.Proofs.YtgmppfpllogdcaaGreat
namespace Ins
open Go.RowKit So Dsk Rts Sto
def xO (gx:Value) (v at_ sz sc:Int):Obj:= .cells #[.slice none 0 0,.int .i64 0,.bool false,.int .i64 0,.bool false,.int .i64 v,gx,.int .i64 at_,.int .i64 at_,.int .i64 sz,.int .u32 sc] 31
def Rx (w:World) (fv gv gx:Value) (S:St) (at_ sz sc:Int) (x t:Nat) (D:Dp.Dk) (W:World):Prop:=
 DkR w w.heap.size fv gv [(x,xO gx (S.v+1) at_ sz sc),(w.heap.size+1,zS),(w.heap.size,sB fv gv S)] [(fv,S.d.f)] [(gx,[⟨at_,0,0⟩]),(gv,S.g)] t D W
theorem rx_lay {w W W':World} {fv gv gx:Value} {S:St} {at_ sz sc:Int} {x t:Nat} {D D':Dp.Dk} {a:Option Addr} {n c:Nat} {a':Option Addr} {n' c':Nat} (hx:w.heap.size+1<x) (ht:x<t)
 (h:Ms w w.heap.size fv gv [(t,.cells #[.slice a n c,.int .i64 D.c,.bool D.a,.int .i64 D.l,.bool D.x] 27),(x,xO gx (S.v+1) at_ sz sc),(w.heap.size+1,zS),(w.heap.size,sB fv gv S)] [(.slice a n c,D.f),(fv,S.d.f)] [(gx,[⟨at_,0,0⟩]),(gv,S.g)] W) (k:DkS W (.slice a n c) D' (.slice a' n' c') W'):
 ∃Z,((((W'.setCell ⟨t,0,none⟩ (.slice a' n' c')).setCell ⟨t,1,none⟩ (.int .i64 D'.c)).setCell ⟨t,2,none⟩ (.bool D'.a)).setCell ⟨t,3,none⟩ (.int .i64 D'.l)).setCell ⟨t,4,none⟩ (.bool D'.x)=Z/\Rx w fv gv gx S at_ sz sc x t D' Z:=by
 obtain ⟨Z,h1,h2⟩:=(h.call mcs k).lay5 (t:=t) (cs':=[(t,.cells #[.slice a' n' c',.int .i64 D'.c,.bool D'.a,.int .i64 D'.l,.bool D'.x] 27),(x,xO gx (S.v+1) at_ sz sc),(w.heap.size+1,zS),(w.heap.size,sB fv gv S)]) mcs (.slice a' n' c') (.int .i64 D'.c) (.bool D'.a) (.int .i64 D'.l) (.bool D'.x) (Trm.four (by omega) (by omega) (by omega))
 exact ⟨Z,h1,_,_,_,h2.sub (fun _ h=>h) (fun p hp=>by
  rcases List.mem_cons.1 hp with rfl | hp
  · exact mcs
  · exact mcm (mcm hp)) (fun _ h=>h)⟩
theorem zgl (fa ga:Option Addr) (fn fc gn gc:Nat) (S:St) (at_:Int) (s:ByteArray) (w:World) (k:Nat) (hv:IsL FL w (.slice fa fn fc) S.d.f) (hg:IsL Rts.SL w (.slice ga gn gc) S.g) (hn:S.g≠[]) (hB:Stb S) (hS:Bd S.d k) (hk:k<=50000) (hver:S.v<1152921504606846976) (hs:s.size<=3000):
 Calls Tryz.prog 9 #[zag (.slice fa fn fc) (.slice ga gn gc) S,.int .i64 at_,.string s] w (zdW w (.slice fa fn fc) (.slice ga gn gc) (Lg.installT S at_ s.data.toList)):=by
 have hgl:=hg.len.1;have hgn:S.g.length<=1000:=hB.n;have M0:=(((Ms.start hv hg).alloc #[.slice fa fn fc,.int .i64 S.d.c,.bool S.d.a,.int .i64 S.d.l,.bool S.d.x,.int .i64 S.v,.slice ga gn gc,.int .i64 S.x,.int .i64 S.s,.int .i64 S.z,.int .u32 S.c] 31).alloc #[.slice none 0 0,.int .i64 0,.bool false,.int .i64 0,.bool false,.int .i64 0,.slice none 0 0,.int .i64 0,.int .i64 0,.int .i64 0,.int .u32 0] 31);rw [World.size_alloc] at M0;have MM:=zid M0;have PR:=zid fun W:World=>zcy s W (by omega);have hdec:Decidable (at_<=S.x\/1099511627776<at_\/Fp.parse s.data.toList=none):=Classical.propDecidable _;obtain ⟨⟨k0,k1,k2,k3,k4⟩,k5,k6,k7,k8,k9,k10⟩:=zab (M0.at_ (t:=w.heap.size) (mcm mcs))
 by_cases hc:at_<=S.x\/1099511627776<at_\/Fp.parse s.data.toList=none
 · have HR:=zid (show Lg.installT S at_ s.data.toList=(S,1) from zd3 hc)
   have hcs:(at_<=S.x)\/(¬at_<=S.x/\1099511627776<at_)\/(¬at_<=S.x/\¬1099511627776<at_/\(Fp.parse s.data.toList).isSome=false):=by
    by_cases h1:at_<=S.x
    · exact .inl h1
    by_cases h2:1099511627776<at_
    · exact .inr (.inl ⟨h1,h2⟩)
    · rcases hc with h | h | h
      · exact absurd h h1
      · exact absurd h h2
      · exact .inr (.inr ⟨h1,h2,by rw [h];rfl⟩)
   clear M0 hv hg hn hB hS hver hc hdec hgl;unfold zag;rw [HR.out]
   go_enter Tryz.func9,Tryz.ntmps9
   go_upto_region 1 with (fail);generalize World.alloc (World.alloc w _) _=W0 at MM k0 k1 k2 k3 k4 k5 k6 k7 k8 k9 k10 ⊢;go_wp2_with fail;refine (PR.out W0).mono ?_;rintro e w1 ⟨v,rfl,_,b1⟩;have HM1:=zid (MM.out.keep b1);clear k0 k1 k2 k3 k4 k5 k6 k7 k8 k9 k10 b1 MM PR;generalize hpb:(Fp.parse s.data.toList).isSome=pb at hcs ⊢;obtain ⟨⟨k0,k1,k2,k3,k4⟩,k5,k6,k7,k8,k9,k10⟩:=zab (HM1.out.at_ (t:=w.heap.size) (mcm mcs));obtain ⟨⟨q0,q1,q2,q3,q4⟩,q5,q6,q7,q8,q9,q10⟩:=zab (HM1.out.at_ (t:=w.heap.size+1) mcs);have qf:=zaf (HM1.out.at_ (t:=w.heap.size+1) mcs);obtain ⟨Z,hZ,Z1⟩:=HM1.out.lay11 (t:=w.heap.size+1) (cs':=[(w.heap.size+1,sB (.slice fa fn fc) (.slice ga gn gc) S)]) mcs (.slice fa fn fc) (.int .i64 S.d.c) (.bool S.d.a) (.int .i64 S.d.l) (.bool S.d.x) (.int .i64 S.v) (.slice ga gn gc) (.int .i64 S.x) (.int .i64 S.s) (.int .i64 S.z) (.int .u32 S.c) (fun p hp=> .inl (List.mem_singleton.1 hp));have HZ:=zid hZ;have HMZ:=zid Z1;clear hZ Z1 hpb
   rcases hcs with h1 | ⟨h1,h2⟩ | ⟨h1,h2,rfl⟩
   rotate_left
   rotate_left
   have e1:decide (at_<=S.x)=false:=by simpa using h1
   have e2:decide (1099511627776<at_)=false:=by simpa using h2
   rotate_left
   have e1:decide (at_<=S.x)=true:=by simpa using h1
   rotate_left
   have e1:decide (at_<=S.x)=false:=by simpa using h1
   have e2:decide (1099511627776<at_)=true:=by simpa using h2
   all_goals
    go_wp2_with fail
    rw [HZ.out];obtain ⟨⟨z0,z1,z2,z3,z4⟩,z5,z6,z7,z8,z9,z10⟩:=zab (HMZ.out.at_ (t:=w.heap.size+1) mcs);refine bodyPost_ret (v:= .tuple #[.agg #[.slice fa fn fc,.int .i64 S.d.c,.bool S.d.a,.int .i64 S.d.l,.bool S.d.x,.int .i64 S.v,.slice ga gn gc,.int .i64 S.x,.int .i64 S.s,.int .i64 S.z,.int .u32 S.c],.int .i64 1]) (by simp [results,Tryz.results9,go_sem,z0,z1,z2,z3,z4,z5,z6,z7,z8,z9,z10]) rfl ?_;exact ⟨_,_,_,_,_,_,rfl,HMZ.out.sts mcs mcs⟩
 have h1:S.x<at_:=Int.not_le.1 fun e=>hc (.inl e);have h2:at_<=1099511627776:=Int.not_lt.1 fun e=>hc (.inr (.inl e))
 have e1:decide (at_<=S.x)=false:=by simp;omega
 have e2:decide (1099511627776<at_)=false:=by simp;omega
 have hps:(Fp.parse s.data.toList).isSome=true:=by
  rcases hp:Fp.parse s.data.toList with _ | l
  · exact absurd (.inr (.inr hp)) hc
  · rfl
 have hx0:=hB.x;have ha:0<=at_/\at_<=1099511627776:=⟨by omega,h2⟩;have hL3:s.data.toList.length<=3000:=hs
 have HTK:=zid (show Lg.installT S at_ s.data.toList=if (Lg.inst4 S at_ s.data.toList).2≠0 then ({S with d:=(Lg.inst4 S at_ s.data.toList).1},(Lg.inst4 S at_ s.data.toList).2) else ({Lg.instX S at_ s.data.toList with d:=(Lg.inst5 S (Lg.inst4 S at_ s.data.toList).1).1},(Lg.inst5 S (Lg.inst4 S at_ s.data.toList).1).2) from if_neg hc)
 have H5:=zid fun D:Dp.Dk=>(show Lg.inst5 S D=if (Lg.delSegs D S.g).2=0/\0<floor S then Dp.delete (Lg.delSegs D S.g).1 (Lg.snapN (floor S)) else Lg.delSegs D S.g from rfl);have hXB:=zgN (L:=s.data.toList) hB hver ha hL3;have MB:Mfs.MnB (man (Lg.instX S at_ s.data.toList)):=⟨⟨by have:=hXB.v;show _<=(Lg.instX S at_ s.data.toList).v;omega,by have:=hXB.v;show (Lg.instX S at_ s.data.toList).v<=_;omega⟩,⟨by have:=hXB.z;show _<=(Lg.instX S at_ s.data.toList).z;omega,by have:=hXB.z;show (Lg.instX S at_ s.data.toList).z<=_;omega⟩,hXB.c⟩
 have RM:=(show ∀(gv:Value) (W:World),IsL Rts.SL W gv [⟨at_,0,0⟩]->Calls Tryz.prog 33 #[zag (.slice none 0 0) gv {Lg.instX S at_ s.data.toList with d:=Dp.empty}] W (ziY W (man (Lg.instX S at_ s.data.toList))) from fun gv W h=>zd1 (.slice none 0 0) gv {Lg.instX S at_ s.data.toList with d:=Dp.empty} W h ⟨Dsk.Bd.empty.sm (by omega),hXB.v,hXB.n,hXB.g,hXB.x,hXB.s,hXB.z,hXB.c⟩)
 have LAY:=fun (a:Option Addr) (n c:Nat) (W:World) (h1:IsL FL W (.slice fa fn fc) S.d.f) (h2:IsL Mfs.IL W (.slice a n c) [at_])=>rlay_any fa a fn fc n c S at_ s W k h1 h2 hS (by omega) hs ha MB;have OF:=zid (show ∀W:World,Calls Tryz.prog 31 #[.string s] W fun e w'=>e= .returned (.int .u32 (Cp.sum 0 s.data.toList:Nat))/\W=w' from fun W=>Trm.rof13_any s W hs);have BD4:Bd (Lg.inst4 S at_ s.data.toList).1 (k+12):=zfP hS hL3;have hml:(man (Lg.instX S at_ s.data.toList)).l=[at_]:=rfl;obtain ⟨⟨D4,E4⟩,h4⟩:∃R,Lg.inst4 S at_ s.data.toList=R:=⟨_,rfl⟩;rw [h4] at LAY HTK BD4;dsimp only at HTK BD4
 have HXD:=zid (show ∀D,({Lg.instX S at_ s.data.toList with d:=D}:St)=⟨D,S.v+1,[⟨at_,0,0⟩],at_,at_,(s.data.toList.length:Int),(Cp.sum 0 s.data.toList:Int)⟩ from fun D=>rfl)
 have hvv:IntKind.i64.wrap (S.v+1)=S.v+1:=IntWalk.i64_in _ ⟨by have:=hB.v;omega,by omega⟩;have hsl:s.data.toList.length=s.size:=rfl;rw [hsl] at HXD;unfold zag Lg.instX Dp.empty at RM;rw [hsl] at RM;dsimp only at RM;obtain ⟨q,hq⟩:∃q:Nat,Cp.sum 0 s.data.toList=q:=⟨_,rfl⟩;rw [hq] at HXD RM OF;obtain ⟨M,hM⟩:∃M,man (Lg.instX S at_ s.data.toList)=M:=⟨_,rfl⟩;rw [hM] at LAY hml;unfold Lg.instX at hM;rw [hsl,hq] at hM;rw [hM] at RM;unfold zac Mfs.mnVal at LAY;unfold ziY at RM;rw [hml] at RM;unfold Mfs.mnVal at RM;have HBD4:=zid BD4;have HSB:=zid hB;have HNE:=zid hn;have HGL:=zid hgl;have HA:=zid ha;replace RM:=zid RM;replace LAY:=zid LAY;clear M0 hv hg hn hB hS hver hs hc hdec hgl ha hL3 hXB MB h4 hM hq BD4 hml hsl hx0 h1 h2;unfold zag
 go_enter Tryz.func9,Tryz.ntmps9
 go_upto_region 1 with (fail);generalize World.alloc (World.alloc w _) _=W0 at MM k0 k1 k2 k3 k4 k5 k6 k7 k8 k9 k10 ⊢;go_wp2_with fail;refine (PR.out W0).mono ?_;rintro e w1 ⟨v,rfl,_,b1⟩;rw [hps];have HM1:=zid (MM.out.keep b1);clear k0 k1 k2 k3 k4 k5 k6 k7 k8 k9 k10 b1 MM PR hps;obtain ⟨⟨k0,k1,k2,k3,k4⟩,k5,k6,k7,k8,k9,k10⟩:=zab (HM1.out.at_ (t:=w.heap.size) (mcm mcs));go_upto_region 4 with (fail);clear e1 e2;have hl0:=HM1.out.lt (t:=w.heap.size) (mcm mcs)
 have hne:w1.heap.size≠w.heap.size:=by omega
 go_cut [10] (fun p we=>∃(x:Nat) (xa:Addr),p= .pointer (some ⟨x,0,none⟩)/\w1.heap.size<=x/\Hid (Ms w w.heap.size (.slice fa fn fc) (.slice ga gn gc) [(x,xO (.slice (some xa) 1 1) (S.v+1) at_ s.size q),(w.heap.size+1,zS),(w.heap.size,sB (.slice fa fn fc) (.slice ga gn gc) S)] [(.slice fa fn fc,S.d.f)] [(.slice (some xa) 1 1,[⟨at_,0,0⟩]),(.slice ga gn gc,S.g)] we))
 case first=>
  clear RM LAY HTK H5 HXD
  go_region_held3 (fun W=>(∀o,W.cell? ⟨w.heap.size,o,none⟩=w1.cell? ⟨w.heap.size,o,none⟩)/\w.heap.size<W.heap.size) (first | with_reducible assumption | with_reducible exact KT.dr hl0 | with_reducible exact KT.ad (KT.start hl0) | with_reducible exact KT.al (by assumption) | with_reducible exact KT.ad (by assumption) | with_reducible exact KT.add (by assumption) | with_reducible exact KT.ad (KT.al (KT.start hl0)) | with_reducible exact KT.st11 (by assumption) hne | with_reducible exact KT.keep (by assumption) (Below.refl _ _).drew | with_reducible exact KT.keep (by assumption) (by assumption)) (first | (go_at_call 31;refine (OF.out _).mono ?_;rintro e w5 ⟨rfl,rfl⟩))
  all_goals
   rename_i hh
   clear hh k0 k1 k2 k3 k4 k5 k6 k7 k8 k9 k10;go_wp2_with fail;go_meet
   case rel=>
    first
     | exact ⟨_,_,rfl,Nat.le_succ _,zid (ms_segA HM1.out HA.out _ _)⟩
     | exact ⟨_,_,rfl,Nat.le_refl _,zid (ms_segB HM1.out HA.out _ _)⟩
 case rest=>
  obtain ⟨x,xa,rfl,hx1,HM2⟩:=hcut;have hxx:w.heap.size+1<x:=Nat.lt_of_lt_of_le (HM1.out.lt (t:=w.heap.size+1) mcs) hx1;clear k0 k1 k2 k3 k4 k5 k6 k7 k8 k9 k10 HM1 hl0 hne hx1 OF;go_upto_region 5 with (fail);generalize wc=W2 at HM2 ⊢;have HFL:=zid (HM2.out.fl mcs);have HSX:=zid (HM2.out.sl (v:= .slice (some xa) 1 1) mcs);have hl0:=HM2.out.lt (t:=w.heap.size) (mcm (mcm mcs));have hl1:=HM2.out.lt (t:=x) mcs;obtain ⟨⟨k0,k1,k2,k3,k4⟩,k5,k6,k7,k8,k9,k10⟩:=zab (HM2.out.at_ (t:=w.heap.size) (mcm (mcm mcs)));obtain ⟨⟨x0,x1,x2,x3,x4⟩,x5,x6,x7,x8,x9,x10⟩:=zab (HM2.out.at_ (t:=x) mcs)
  go_cut [11,12] (fun p e we=>∃t:Nat,p= .pointer (some ⟨t,0,none⟩)/\e= .int .i64 E4/\W2.heap.size<=t/\DkR w w.heap.size (.slice fa fn fc) (.slice ga gn gc) [(x,xO (.slice (some xa) 1 1) (S.v+1) at_ s.size q),(w.heap.size+1,zS),(w.heap.size,sB (.slice fa fn fc) (.slice ga gn gc) S)] [(.slice fa fn fc,S.d.f)] [(.slice (some xa) 1 1,[⟨at_,0,0⟩]),(.slice ga gn gc,S.g)] t D4 we)
  case first=>
   clear H5 HTK HXD HBD4 HSB HNE HGL HA
   go_region_held3 (fun W=>(∀b o,b<W2.heap.size->W.cell? ⟨b,o,none⟩=W2.cell? ⟨b,o,none⟩)/\Below W2.heap.size W2 W) (first | with_reducible assumption | with_reducible exact KW.dr _ | with_reducible exact KW.al5 (by assumption) | with_reducible exact KW.al (by assumption) | with_reducible exact KW.ad (KW.start _) | with_reducible exact KW.ad (by assumption) | with_reducible exact KW.st5 (by assumption) (by assumption) | with_reducible exact KW.keep (by assumption) (Below.refl _ _).drew | with_reducible exact KW.keep (by assumption) (by assumption)) (first | (go_at_call 33;refine (RM.out _ _ (by first | exact HSX.out.keep (KW.bel (by assumption)) | exact HSX.out.keep (Below.refl _ _).drew)).mono ?_;rintro e w4 ⟨am,an,ac,rfl,hl,b4⟩;have HL:=zid hl;clear hl;have h4:W2.heap.size<=w4.heap.size:=Nat.le_trans (by first | exact Nat.le_refl _ | exact zbc _ _) b4.size;(first | (with_reducible have z4:=hkeep (zaI _ _ _) b4;have y4:W2.heap.size<w4.heap.size:=Nat.lt_of_lt_of_le (zaW _ _) b4.size;have x4':W2.heap.size<=W2.heap.size:=Nat.le_refl _) | skip)) | (go_at_call 32;refine (LAY.out am an ac _ (by first | exact HFL.out.keep (KW.bel (by assumption)) | exact HFL.out.keep (Below.refl _ _).drew) (by first | exact HL.out | exact HL.out.keep ((Below.refl _ _).alloc (Nat.le_refl _) _) | exact HL.out.keep ((Below.refl _ _).alloc (Nat.le_refl _) _).drew)).mono ?_;rintro e w5 ⟨a5,n5,c5,rfl,k5'⟩;have q5:=k5'.w;have s5:=KW.keep (by assumption) q5;have q4:=KW.at (by assumption) q5;(first | (with_reducible have z5:=hkeep (heap_alloc_new _ _) q5) | (with_reducible have z5:=hkeep z4 q5) | skip);(first | (have zc:=zaa z5;have zf:=zad z5;obtain ⟨y0,y1,y2,y3,y4'⟩:=zc;obtain ⟨yf0,yf1,yf2,yf3,yf4⟩:=zf) | skip);unfold zac;dsimp only))
   all_goals
    rename_i hh
    have kk:DkS _ (.slice fa fn fc) D4 _ _:=k5';clear hh s5 k5';go_wp2_with fail;go_meet
    case rel=>
     first
      | (refine ⟨_,rfl,rfl,Nat.le_trans q4.size kk.w.size,?_⟩;with_reducible exact DkR.A HM2.out mcs q4 kk)
      | (refine ⟨_,rfl,rfl,(by first | assumption | simp),?_⟩;with_reducible exact DkR.B HM2.out mcs q4 kk z5 (by assumption) (by first | assumption | simp))
  case rest=>
   clear k0 k1 k2 k3 k4 k5 k6 k7 k8 k9 k10 x0 x1 x2 x3 x4 x5 x6 x7 x8 x9 x10 RM LAY HFL HSX;obtain ⟨t,rfl,rfl,ht1,MR⟩:=hcut;have HRX:=zid (show Rx w (.slice fa fn fc) (.slice ga gn gc) (.slice (some xa) 1 1) S at_ s.size q x t D4 _ from MR);have htt:x<t:=Nat.lt_of_lt_of_le hl1 ht1;clear MR HM2 ht1 hl0 hl1
   by_cases hE4:E4=0
   case neg=>
    have e1:(E4 != 0)=true:=by simpa using hE4
    have HR:=zid (show Lg.installT S at_ s.data.toList=({S with d:=D4},E4) from by rw [HTK.out,if_pos hE4])
    obtain ⟨a,n,c,M⟩:=HRX.out;have HM:=zid M;clear hE4 HTK HRX M H5 HXD;obtain ⟨k0,k1,k2,k3,k4⟩:=zaa (HM.out.at_ (t:=t) mcs);obtain ⟨⟨x0,x1,x2,x3,x4⟩,x5,x6,x7,x8,x9,x10⟩:=zab (HM.out.at_ (t:=w.heap.size) (mcm (mcm (mcm mcs))));have xf:=zaf (HM.out.at_ (t:=w.heap.size) (mcm (mcm (mcm mcs))));go_upto_region 8 with (fail)
    obtain ⟨Z,hZ,MZ⟩:=HM.out.layD (t:=w.heap.size) (cs':=[(w.heap.size+1,zS),(w.heap.size,sB (.slice a n c) (.slice ga gn gc) {S with d:=D4})]) (mcm (mcm (mcm mcs))) (.slice a n c) (.int .i64 D4.c) (.bool D4.a) (.int .i64 D4.l) (.bool D4.x) (zb0 (.inr ⟨mcm (mcm mcs),by show w.heap.size+1≠w.heap.size;omega⟩) (.inl rfl))
    rw [hZ];have HMZ:=zid MZ;clear k0 k1 k2 k3 k4 x0 x1 x2 x3 x4 x5 x6 x7 x8 x9 x10 xf hZ MZ;obtain ⟨⟨k0,k1,k2,k3,k4⟩,k5,k6,k7,k8,k9,k10⟩:=zab (HMZ.out.at_ (t:=w.heap.size) (mcm mcs));obtain ⟨⟨x0,x1,x2,x3,x4⟩,x5,x6,x7,x8,x9,x10⟩:=zab (HMZ.out.at_ (t:=w.heap.size+1) mcs);have xf:=zaf (HMZ.out.at_ (t:=w.heap.size+1) mcs);go_wp2_with fail
    obtain ⟨Y,hY,MY⟩:=HMZ.out.lay11 (t:=w.heap.size+1) (cs':=[(w.heap.size+1,sB (.slice a n c) (.slice ga gn gc) {S with d:=D4})]) mcs (.slice a n c) (.int .i64 D4.c) (.bool D4.a) (.int .i64 D4.l) (.bool D4.x) (.int .i64 S.v) (.slice ga gn gc) (.int .i64 S.x) (.int .i64 S.s) (.int .i64 S.z) (.int .u32 S.c) (fun p hp=> .inl (List.mem_singleton.1 hp))
    rw [hY];obtain ⟨⟨z0,z1,z2,z3,z4⟩,z5,z6,z7,z8,z9,z10⟩:=zab (MY.at_ (t:=w.heap.size+1) mcs);rw [HR.out];refine bodyPost_ret (v:= .tuple #[.agg #[.slice a n c,.int .i64 D4.c,.bool D4.a,.int .i64 D4.l,.bool D4.x,.int .i64 S.v,.slice ga gn gc,.int .i64 S.x,.int .i64 S.s,.int .i64 S.z,.int .u32 S.c],.int .i64 E4]) (by simp [results,Tryz.results9,go_sem,z0,z1,z2,z3,z4,z5,z6,z7,z8,z9,z10]) rfl ?_
    exact ⟨_,_,_,_,_,_,rfl,MY.sts (T:={S with d:=D4}) mcs (mcm mcs)⟩
   case pos=>
    subst hE4;have e1:((0:Int) != 0)=false:=rfl;have HK:=zid (show Lg.installT S at_ s.data.toList=(⟨(Lg.inst5 S D4).1,S.v+1,[⟨at_,0,0⟩],at_,at_,s.size,q⟩,(Lg.inst5 S D4).2) from by rw [HTK.out,if_neg (by show ¬(0:Int)≠0;decide),HXD.out])
    have hgz:gn<=1000:=by have:=HGL.out;omega
    clear HTK HXD;go_wp2_with fail
    go_loopw [12,13] (fun e i wr=>∃(j:Nat) (D:Dp.Dk) (E:Int),e= .int .i64 E/\i= .int .i64 j/\j<=gn/\Hid (Lg.delSegs D4 S.g=if E=0 then Lg.delSegs D (S.g.drop j) else (D,E))/\Hid (Rx w (.slice fa fn fc) (.slice ga gn gc) (.slice (some xa) 1 1) S at_ s.size q x t D wr)/\Hid (Bd D (k+12+j))) (fun _ i _=>gn-(intOf i).toNat)
    case atStart=>exact ⟨0,D4,0,rfl,rfl,Nat.zero_le _,zid (by rw [if_pos rfl,List.drop_zero]),HRX,HBD4⟩
    case round=>
     obtain ⟨j,D,E,rfl,rfl,hj,HD,HM7,BD7⟩:=hrel
     by_cases hgo:j<gn/\E=0
     · obtain ⟨hlt,rfl⟩:=hgo
       have hjl:j<S.g.length:=by have:=HGL.out;omega
       have hgb:=HSB.out.g (S.g.getD j Rt.zero) (by rw [zao hjl];exact List.getElem_mem hjl);have hHD:=HD.out;rw [if_pos rfl,Rt.drop_at hjl] at hHD;rw [show Lg.delSegs D (S.g.getD j Rt.zero::S.g.drop (j+1))=if (Dp.delete D (segN (S.g.getD j Rt.zero).b)).2≠0 then Dp.delete D (segN (S.g.getD j Rt.zero).b) else Lg.delSegs (Dp.delete D (segN (S.g.getD j Rt.zero).b)).1 (S.g.drop (j+1)) from rfl] at hHD;obtain ⟨a,n,c,M⟩:=HM7.out;have HM:=zid M;have PD:=zid (M.keep (W':=wr.drew) (Below.refl _ _).drew);obtain ⟨⟨u0,u1,u2,u3,u4⟩,u5,u6,u7,u8,u9,u10⟩:=zab (M.at_ (t:=w.heap.size) (mcm (mcm (mcm mcs))));obtain ⟨sb',so',rfl,s0',s1',s2'⟩:=zce (PD.out.sl (v:= .slice ga gn gc) (l:=S.g) (mcm mcs)) hlt;clear s1' s2' hjl M HM7 HD;generalize S.g.getD j Rt.zero=G at*;have SG:=zid (show ∀W:World,Calls Tryz.prog 35 #[.int .i64 G.b] W fun e w'=>e= .returned (.string (segN G.b))/\Below W.heap.size W w' from fun W=>zbq G.b W (by have:=hgb.1;omega));obtain ⟨⟨D8,E8⟩,hR8⟩:∃R,Dp.delete D (segN G.b)=R:=⟨_,rfl⟩;have RDL:=fun (W:World) (h:IsL FL W (.slice a n c) D.f)=>zbe BD7.out (by omega) (segN G.b) h;have BD8:=zam BD7.out (segN G.b);rw [hR8] at hHD RDL BD8;dsimp only at hHD BD8
       have HD8:=zid (show Lg.delSegs D4 S.g=if E8=0 then Lg.delSegs D8 (S.g.drop (j+1)) else (D8,E8) from by
        rw [hHD]
        by_cases h:E8=0
        · rw [if_neg (by simpa using h),if_pos h]
        · rw [if_pos h,if_neg h])
       replace BD8:=zid BD8;unfold zac at RDL;replace RDL:=zid RDL;generalize segN G.b=N8 at*;clear hR8 hHD hgb;go_upto_region 12 with (fail);clear u0 u1 u2 u3 u4 u5 u6 u7 u8 u9 u10;obtain ⟨k0,k1,k2,k3,k4⟩:=zaa (PD.out.at_ (t:=t) mcs);obtain ⟨⟨x0,x1,x2,x3,x4⟩,x5,x6,x7,x8,x9,x10⟩:=zab (PD.out.at_ (t:=w.heap.size) (mcm (mcm (mcm mcs))))
       go_region_with (first | (go_at_call 35;refine (SG.out _).mono ?_;rintro e w5 ⟨rfl,b5⟩;have P5:=zid (PD.out.keep b5);obtain ⟨l0,l1,l2,l3,l4⟩:=zaa (P5.out.at_ (t:=t) mcs);clear b5) | (go_at_call 34;refine (RDL.out _ (P5.out.fl mcs)).mono ?_;rintro e w6 ⟨a6,n6,c6,rfl,k6'⟩;have LY:=zid (rx_lay hxx htt P5.out k6');obtain ⟨y0,y1,y2,y3,y4⟩:=zaa (hkeep (P5.out.at_ (t:=t) mcs) k6'.w);have yf:=zad (hkeep (P5.out.at_ (t:=t) mcs) k6'.w);obtain ⟨yf0,yf1,yf2,yf3,yf4⟩:=yf;clear k6';unfold zac;dsimp only))
       all_goals
        go_upto_region 11 with (fail)
        obtain ⟨Z5,hZ5,MZ5⟩:=LY.out;rw [hZ5];have HMZ5:=zid MZ5;clear hZ5 MZ5 LY k0 k1 k2 k3 k4 x0 x1 x2 x3 x4 x5 x6 x7 x8 x9 x10 l0 l1 l2 l3 l4 y0 y1 y2 y3 y4 yf0 yf1 yf2 yf3 yf4 s0';go_wp2_with fail
        go_roundw
        case rel=>exact ⟨j+1,D8,E8,rfl,by go_num,by omega,HD8,HMZ5,zid (BD8.out.mono (by omega))⟩
        case measure=>simp [intOf];omega
     · have hfin:=zid (show Lg.delSegs D4 S.g=(D,E) from by
        rw [HD.out]
        by_cases hE:E=0
        · rw [if_pos hE,List.drop_eq_nil_of_le (by have:=HGL.out;omega),hE]
          rfl
        · rw [if_neg hE])
       obtain ⟨a,n,c,M⟩:=HM7.out;have HM:=zid M
       have hrr:(j<gn/\E≠0)\/(¬j<gn/\E≠0)\/(¬j<gn/\E=0):=by
        by_cases h1:j<gn
        · exact .inl ⟨h1,fun e=>hgo ⟨h1,e⟩⟩
        · by_cases h2:E=0
          · exact .inr (.inr ⟨h1,h2⟩)
          · exact .inr (.inl ⟨h1,h2⟩)
       have FLO:=fun (W:World) (h:IsL Rts.SL W (.slice ga gn gc) S.g)=>zc1 (.slice fa fn fc) (.slice ga gn gc) S W h HNE.out;unfold zag at FLO;replace FLO:=zid FLO;obtain ⟨⟨x0,x1,x2,x3,x4⟩,x5,x6,x7,x8,x9,x10⟩:=zab (M.at_ (t:=w.heap.size) (mcm (mcm (mcm mcs))))
       have H4:=zid (show Lg.inst5 S D4=if E=0/\0<floor S then Dp.delete D (Lg.snapN (floor S)) else (D,E) from by
        rw [H5.out,hfin.out])
       have HFB:=zid (Trm.floor_in HNE.out HSB.out);clear M hgo HD H5 hfin HM7
       rcases hrr with ⟨hlt,hE⟩ | ⟨hlt,hE⟩ | ⟨hlt,rfl⟩
       rotate_left
       rotate_left
       go_upto_if 89 with (refine (FLO.out _ (HM.out.sl (mcm mcs))).mono ?_;rintro e w5 ⟨rfl,b5⟩)
       rotate_left
       have e2:(E==0)=false:=by simpa using hE
       go_upto_if 89 with (fail)
       rotate_left
       have e2:(E==0)=false:=by simpa using hE
       go_upto_if 89 with (fail)
       all_goals
        go_cut [12] (fun e we=>∃D9 E9,e= .int .i64 E9/\Hid (Lg.inst5 S D4=(D9,E9))/\Hid (Rx w (.slice fa fn fc) (.slice ga gn gc) (.slice (some xa) 1 1) S at_ s.size q x t D9 we))
       case first=>
        have HR:=zid (show Lg.inst5 S D4=(D,E) from by rw [H4.out,if_neg (fun h=>hE h.1)]);clear H4;go_wp2_with fail;go_meet
        case rel=>exact ⟨D,E,rfl,HR,zid ⟨_,_,_,HM.out⟩⟩
       case first=>
        have PD:=zid (HM.out.keep b5)
        by_cases hfl:0<floor S
        · obtain ⟨⟨D9,E9⟩,hR9⟩:∃R,Dp.delete D (Lg.snapN (floor S))=R:=⟨_,rfl⟩
          have HR:=zid (show Lg.inst5 S D4=(D9,E9) from by rw [H4.out,if_pos ⟨by trivial,hfl⟩,hR9])
          have RDL:=fun (W:World) (h:IsL FL W (.slice a n c) D.f)=>zbe BD7.out (by omega) (Lg.snapN (floor S)) h;rw [hR9] at RDL;unfold zac at RDL;replace RDL:=zid RDL;have SF:=zid (show ∀W:World,Calls Tryz.prog 37 #[.int .i64 (floor S)] W fun e w'=>e= .returned (.string (Lg.snapN (floor S)))/\Below W.heap.size W w' from fun W=>zcf (floor S) W (by omega));clear hR9 H4 x0 x1 x2 x3 x4 x5 x6 x7 x8 x9 x10;go_upto_region 14 with (fail);generalize Lg.snapN (floor S)=N9 at*;have PE:=zid (PD.out.keep (W':=w5.drew) (Below.refl _ _).drew);obtain ⟨k0,k1,k2,k3,k4⟩:=zaa (PE.out.at_ (t:=t) mcs);obtain ⟨⟨x0,x1,x2,x3,x4⟩,x5,x6,x7,x8,x9,x10⟩:=zab (PE.out.at_ (t:=w.heap.size) (mcm (mcm (mcm mcs))))
          go_region_with (first | (go_at_call 36;refine (FLO.out _ (PE.out.sl (mcm mcs))).mono ?_;rintro e w6 ⟨rfl,b6⟩;have P6:=zid (PE.out.keep b6);obtain ⟨l0,l1,l2,l3,l4⟩:=zaa (P6.out.at_ (t:=t) mcs);clear b6) | (go_at_call 37;refine (SF.out _).mono ?_;rintro e w7 ⟨rfl,b7⟩;have P7:=zid (P6.out.keep b7);obtain ⟨m0,m1,m2,m3,m4⟩:=zaa (P7.out.at_ (t:=t) mcs);clear b7) | (go_at_call 34;refine (RDL.out _ (P7.out.fl mcs)).mono ?_;rintro e w8 ⟨a6,n6,c6,rfl,k6'⟩;have LY:=zid (rx_lay hxx htt P7.out k6');obtain ⟨y0,y1,y2,y3,y4⟩:=zaa (hkeep (P7.out.at_ (t:=t) mcs) k6'.w);have yf:=zad (hkeep (P7.out.at_ (t:=t) mcs) k6'.w);obtain ⟨yf0,yf1,yf2,yf3,yf4⟩:=yf;clear k6';unfold zac;dsimp only))
          all_goals
           obtain ⟨Z5,hZ5,MZ5⟩:=LY.out
           have HMZ5:=zid MZ5;have HZ5:=zid hZ5;clear hZ5 MZ5;go_wp2_with fail;rw [HZ5.out];go_meet
           case rel=>exact ⟨D9,E9,rfl,HR,HMZ5⟩
        · have HR:=zid (show Lg.inst5 S D4=(D,0) from by rw [H4.out,if_neg (fun h=>hfl h.2)])
          clear H4
          go_wp2_with fail;go_meet
          case rel=>exact ⟨D,0,rfl,HR,zid ⟨_,_,_,PD.out⟩⟩
       case first=>
        have HR:=zid (show Lg.inst5 S D4=(D,E) from by rw [H4.out,if_neg (fun h=>hE h.1)]);clear H4;go_wp2_with fail;go_meet
        case rel=>exact ⟨D,E,rfl,HR,zid ⟨_,_,_,HM.out⟩⟩
       all_goals
        obtain ⟨D9,E9,rfl,HR4,MM8⟩:=hcut
        have HR:=zid (show Lg.installT S at_ s.data.toList=(⟨D9,S.v+1,[⟨at_,0,0⟩],at_,at_,s.size,q⟩,E9) from by rw [HK.out,HR4.out]);obtain ⟨a,n,c,M⟩:=MM8.out;have HM:=zid M;clear M HK HR4;obtain ⟨k0,k1,k2,k3,k4⟩:=zaa (HM.out.at_ (t:=t) mcs);obtain ⟨⟨y0,y1,y2,y3,y4⟩,y5,y6,y7,y8,y9,y10⟩:=zab (HM.out.at_ (t:=x) (mcm mcs));have yf:=zaf (HM.out.at_ (t:=x) (mcm mcs));go_upto_region 16 with (fail);obtain ⟨Z,hZ,MZ⟩:=HM.out.layD (t:=x) (cs':=[(w.heap.size+1,zS),(x,sB (.slice a n c) (.slice (some xa) 1 1) ⟨D9,S.v+1,[⟨at_,0,0⟩],at_,at_,s.size,q⟩)]) (mcm mcs) (.slice a n c) (.int .i64 D9.c) (.bool D9.a) (.int .i64 D9.l) (.bool D9.x) (zb0 (.inr ⟨mcm (mcm mcs),by show w.heap.size+1≠x;omega⟩) (.inl rfl));rw [hZ];have HMZ6:=zid MZ;clear k0 k1 k2 k3 k4 y0 y1 y2 y3 y4 y5 y6 y7 y8 y9 y10 yf hZ MZ;obtain ⟨⟨k0,k1,k2,k3,k4⟩,k5,k6,k7,k8,k9,k10⟩:=zab (HMZ6.out.at_ (t:=x) (mcm mcs));obtain ⟨⟨y0,y1,y2,y3,y4⟩,y5,y6,y7,y8,y9,y10⟩:=zab (HMZ6.out.at_ (t:=w.heap.size+1) mcs);have yf:=zaf (HMZ6.out.at_ (t:=w.heap.size+1) mcs);go_wp2_with fail;obtain ⟨Y,hY,MY⟩:=HMZ6.out.lay11 (t:=w.heap.size+1) (cs':=[(w.heap.size+1,sB (.slice a n c) (.slice (some xa) 1 1) ⟨D9,S.v+1,[⟨at_,0,0⟩],at_,at_,s.size,q⟩)]) mcs (.slice a n c) (.int .i64 D9.c) (.bool D9.a) (.int .i64 D9.l) (.bool D9.x) (.int .i64 (S.v+1)) (.slice (some xa) 1 1) (.int .i64 at_) (.int .i64 at_) (.int .i64 (s.size:Int)) (.int .u32 (q:Int)) (fun p hp=> .inl (List.mem_singleton.1 hp));rw [hY];obtain ⟨⟨z0,z1,z2,z3,z4⟩,z5,z6,z7,z8,z9,z10⟩:=zab (MY.at_ (t:=w.heap.size+1) mcs);rw [HR.out];refine bodyPost_ret (v:= .tuple #[.agg #[.slice a n c,.int .i64 D9.c,.bool D9.a,.int .i64 D9.l,.bool D9.x,.int .i64 (S.v+1),.slice (some xa) 1 1,.int .i64 at_,.int .i64 at_,.int .i64 (s.size:Int),.int .u32 (q:Int)],.int .i64 E9]) (by simp [results,Tryz.results9,go_sem,z0,z1,z2,z3,z4,z5,z6,z7,z8,z9,z10]) rfl ?_;exact ⟨_,_,_,_,_,_,rfl,MY.sts (T:=⟨D9,S.v+1,[⟨at_,0,0⟩],at_,at_,s.size,q⟩) mcs mcs⟩
end Ins
namespace Ins
open Go.RowKit So Dsk Rts Sto Trm
theorem plays15 (g:Ask15) (w:World) (hg:g.Ok w):Calls Tryz.prog 3 #[g.val] w fun e w'=>e= .returned (.bool true)/\Below w.heap.size w w':=by
 obtain ⟨q,pa,pn,pc,l,x,s⟩:=g;obtain ⟨hq,h,hx,hs⟩:=hg;dsimp only at hq h hx hs;unfold Ask15.val;dsimp only;have PL:=zid fun (W:World) (hW:IsL PaL W (.slice pa pn pc) l)=>zdB (20+q) pa pn pc l W (by omega) hW;have HL:=zid h;have AW:=zid fun W:World=>zh9 W;have hw20:IntKind.i64.wrap (20+q)=20+q:=IntWalk.i64_in _ ⟨by omega,by omega⟩;have hwq:IntKind.i64.wrap q=q:=IntWalk.i64_in _ ⟨by omega,by omega⟩;have H0:=zid (Ro.Hv.start (w:=w) |>.al #[.int .u8 q,.slice pa pn pc,.int .i64 x,.string s] 24);clear h
 go_enter Tryz.func3,Tryz.ntmps3
 go_upto_region 1 with (fail);generalize w.alloc _=w0 at H0 ⊢;generalize w.heap.size=tp at H0 ⊢;obtain ⟨p0,p1,p2,p3⟩:=Mfs.cells4 (H0.out.at_ (t:=tp) mcs);go_wp2_with fail;refine (PL.out _ (HL.out.keep H0.out.w)).mono ?_;rintro e w1 ⟨a1,n1,c1,a2,n2,c2,S,b,rfl,bel,hb,_⟩;have H1:=zid (H0.out.keep bel);clear p0 p1 p2 p3 H0 PL;unfold zag;dsimp only;go_upto_region 2 with (fail)
 cases b with
 | false=>
  clear hb bel;have H2:=zid (H1.out.al #[.slice a1 n1 c1,.int .i64 S.d.c,.bool S.d.a,.int .i64 S.d.l,.bool S.d.x,.int .i64 S.v,.slice a2 n2 c2,.int .i64 S.x,.int .i64 S.s,.int .i64 S.z,.int .u32 S.c] 31);clear H1;generalize w1.alloc _=w2 at H2 ⊢;go_wp2_with fail;refine (AW.out _).mono ?_;rintro e w3 ⟨rfl,b3⟩;have L3:=zid (H2.out.keep b3);clear b3;go_wp2_with fail;go_ret;exact ⟨rfl,L3.out.w⟩
 | true=>
  obtain ⟨hl40,hSe,ks⟩:=hb rfl;have G:=zkO (q:=20+q) (by omega) HL.out.ok hl40;rw [<-hSe] at G;have H2:=zid (((H1.out.addf ks.f).addg ks.g).al #[.slice a1 n1 c1,.int .i64 S.d.c,.bool S.d.a,.int .i64 S.d.l,.bool S.d.x,.int .i64 S.v,.slice a2 n2 c2,.int .i64 S.x,.int .i64 S.s,.int .i64 S.z,.int .u32 S.c] 31);clear H1 ks hb bel hSe hl40 HL;generalize w1.alloc _=w2 at H2 ⊢;generalize w1.heap.size=ts at H2 ⊢;obtain ⟨p0,p1,p2,p3⟩:=Mfs.cells4 (H2.out.at_ (t:=tp) (mcm mcs))
  by_cases hsl:1000<s.size
  · have hd:decide ((1000:Int)<(s.size:Int))=true:=decide_eq_true (by omega)
    go_wp2_with fail
    refine (AW.out _).mono ?_;rintro e w3 ⟨rfl,b3⟩;have L3:=zid (H2.out.keep b3);clear b3;go_wp2_with fail;go_ret;exact ⟨rfl,L3.out.w⟩
  have hd:decide ((1000:Int)<(s.size:Int))=false:=decide_eq_false (by omega);have hst:=G.stb (by omega) (by decide) (by decide);have hne:=G.ne;have hv:=G.v;have hbd:=G.d;have IN:=fun (a a':Option Addr) (n c n' c':Nat) (W:World) (h1:IsL FL W (.slice a n c) S.d.f) (h2:IsL Rts.SL W (.slice a' n' c') S.g)=>zcB a a' n c n' c' S x s W _ h1 h2 hne hst hbd (by decide) (by omega) (by omega);have RN:=fun (a a':Option Addr) (n c n' c':Nat) (W:World) (h1:IsL FL W (.slice a n c) S.d.f) (h2:IsL Rts.SL W (.slice a' n' c') S.g)=>zgl a a' n c n' c' S x s W _ h1 h2 hne hst hbd (by decide) (by omega) (by omega);obtain ⟨⟨X,E⟩,hT⟩:∃R,Lg.installT S x s.data.toList=R:=⟨_,rfl⟩;rw [hT] at IN RN;have SMS:=fun (a a' b b':Option Addr) (n c n' c' m d m' d':Nat) (W:World) (h1:IsL FL W (.slice a n c) X.d.f) (h2:IsL Rts.SL W (.slice a' n' c') X.g) (h3:IsL FL W (.slice b m d) X.d.f) (h4:IsL Rts.SL W (.slice b' m' d') X.g)=>zhu (.slice a n c) (.slice a' n' c') (.slice b m d) (.slice b' m' d') X W h1 h2 h3 h4;unfold zag at IN RN SMS;replace IN:=zid IN;replace RN:=zid RN;replace SMS:=zid SMS;clear hst hne hv hbd hT G;obtain ⟨⟨k0,k1,k2,k3,k4⟩,k5,k6,k7,k8,k9,k10⟩:=zab (H2.out.at_ (t:=ts) mcs);go_wp2_with fail;refine (IN.out _ _ _ _ _ _ _ (H2.out.fl mcs) (H2.out.sl mcs)).mono ?_;rintro e w3 ⟨a3,n3,c3,a4,n4,c4,rfl,ks⟩;have H3:=zid ((H2.out.st ks).al #[.slice a3 n3 c3,.int .i64 X.d.c,.bool X.d.a,.int .i64 X.d.l,.bool X.d.x,.int .i64 X.v,.slice a4 n4 c4,.int .i64 X.x,.int .i64 X.s,.int .i64 X.z,.int .u32 X.c] 31);clear ks H2 IN p0 p1 p2 p3 k0 k1 k2 k3 k4 k5 k6 k7 k8 k9 k10;unfold zag;dsimp only;go_upto_region 5 with (fail);generalize w3.alloc _=w4 at H3 ⊢;generalize w3.heap.size=tx at H3 ⊢;obtain ⟨p0,p1,p2,p3⟩:=Mfs.cells4 (H3.out.at_ (t:=tp) (mcm (mcm mcs)));obtain ⟨⟨k0,k1,k2,k3,k4⟩,k5,k6,k7,k8,k9,k10⟩:=zab (H3.out.at_ (t:=ts) (mcm mcs));go_wp2_with fail;refine (RN.out _ _ _ _ _ _ _ (H3.out.fl (mcm mcs)) (H3.out.sl (mcm mcs))).mono ?_;rintro e w5 ⟨a5,n5,c5,a6,n6,c6,rfl,ks⟩;have H4:=zid ((H3.out.st ks).al #[.slice a5 n5 c5,.int .i64 X.d.c,.bool X.d.a,.int .i64 X.d.l,.bool X.d.x,.int .i64 X.v,.slice a6 n6 c6,.int .i64 X.x,.int .i64 X.s,.int .i64 X.z,.int .u32 X.c] 31);clear ks H3 RN p0 p1 p2 p3 k0 k1 k2 k3 k4 k5 k6 k7 k8 k9 k10;unfold zag;dsimp only;go_upto_region 6 with (fail);generalize w5.alloc _=w6 at H4 ⊢;generalize w5.heap.size=ty at H4 ⊢;go_wp2_with fail;refine (AW.out _).mono ?_;rintro e w7 ⟨rfl,b7⟩;have H5:=zid (H4.out.keep b7);clear b7 H4;obtain ⟨⟨x0,x1,x2,x3,x4⟩,x5,x6,x7,x8,x9,x10⟩:=zab (H5.out.at_ (t:=tx) (mcm mcs));obtain ⟨⟨y0,y1,y2,y3,y4⟩,y5,y6,y7,y8,y9,y10⟩:=zab (H5.out.at_ (t:=ty) mcs);go_wp2_with fail;refine (SMS.out _ _ _ _ _ _ _ _ _ _ _ _ _ (H5.out.fl (v:= .slice a3 n3 c3) (mcm mcs)) (H5.out.sl (v:= .slice a4 n4 c4) (mcm mcs)) (H5.out.fl (v:= .slice a5 n5 c5) mcs) (H5.out.sl (v:= .slice a6 n6 c6) mcs)).mono ?_;rintro e w8 ⟨rfl,b8⟩;have H6:=zid (H5.out.keep b8);go_wp2_with fail;go_ret;exact ⟨by first | rfl | simp,H6.out.w⟩
end Ins
end Go.Proofs.YtgmppfpllogdcaaGreat

/-
  Parts of what the laws of this seat stand on:Law15S,InsUdo.
-/
import Derived.Test.YtgmppfpllogdcaaGreatBi1
import Derived.Deep.DeepCutAuto
import Derived.Laws.StructEq
import Derived.Test.YtgmppfpllogdcaaGreatBi12
import Derived.Test.YtgmppfpllogdcaaGreatBi19
import Derived.Test.YtgmppfpllogdcaaGreatBi22
import Derived.Test.YtgmppfpllogdcaaGreatBi30
import Derived.Test.YtgmppfpllogdcaaGreatBi31
import Derived.Test.YtgmppfpllogdcaaGreatBi32
import Derived.Test.YtgmppfpllogdcaaGreatBi33
import Derived.Test.YtgmppfpllogdcaaGreatBi39
import Derived.Test.YtgmppfpllogdcaaGreatBi40
import Derived.Test.YtgmppfpllogdcaaGreatBi43
import Derived.Test.YtgmppfpllogdcaaGreatBi44
import Derived.Test.YtgmppfpllogdcaaGreatBi45
import Derived.Test.YtgmppfpllogdcaaGreatBi46
import Derived.Test.YtgmppfpllogdcaaGreatBi51
set_option maxRecDepth 100000
set_option maxHeartbeats 6400000
namespace Go.Proofs.YtgmppfpllogdcaaGreat
namespace Ins
open Go.RowKit So Dsk Rts Sto Trm
theorem zij {w:World} {a:Option Addr} {n c:Nat} {l:List ByteArray} (h:zbY w (.slice a n c) l) {i:Nat} (hi:i<n):(l.getD i ⟨#[]⟩).size<=maxLen/\∃b off,a=some ⟨b,off,none⟩/\w.cell? ⟨b,off+i,none⟩=some (.string (l.getD i ⟨#[]⟩)):=by
 obtain ⟨a',cap,e,_,h2,h3⟩:=h
 injection e with e1 e2 e3
 refine ⟨h2 _ (by rw [zao (by omega)];exact List.getElem_mem _),?_⟩
 rcases h3 with h3 | ⟨b,off,h4,h5⟩
 · rw [h3] at e2;simp at e2;omega
 · exact ⟨b,off,e1.trans h4,h5 i (by omega)⟩
theorem states15 (g:Ask15) (vd:Value) (ds:List ByteArray) (w:World) (hg:g.Ok w) (hdv:zbY w vd ds):Calls Tryz.prog 4 #[g.val,vd] w fun e w'=>e= .returned (.bool true)/\Below w.heap.size w w':=by
 obtain ⟨q,pa,pn,pc,l0,x,s⟩:=g;obtain ⟨hq,h,hx,hs⟩:=hg;dsimp only at hq h hx hs;unfold Ask15.val;dsimp only
 obtain ⟨da,dn,dc,rfl⟩:∃a n c,vd= .slice a n c:=by obtain ⟨a,c,h,_⟩:=hdv;exact ⟨a,_,c,h⟩
 have HS:=zid hdv;have PL:=zid fun (W:World) (hW:IsL PaL W (.slice pa pn pc) l0)=>zdB (20+q) pa pn pc l0 W (by omega) hW;have HL:=zid h;have AW:=zid fun W:World=>zh9 W;have hw20:IntKind.i64.wrap (20+q)=20+q:=IntWalk.i64_in _ ⟨by omega,by omega⟩;have hwq:IntKind.i64.wrap q=q:=IntWalk.i64_in _ ⟨by omega,by omega⟩;have M0:=zid (ms0 (heap_alloc_new w (.cells #[.int .u8 q,.slice pa pn pc,.int .i64 x,.string s] 24)) (Nat.le_refl _) (zbI w _));clear h hdv
 go_enter Tryz.func4,Tryz.ntmps4
 go_upto_region 1 with (fail);generalize w.alloc _=w0 at M0 ⊢;obtain ⟨p0,p1,p2,p3⟩:=Mfs.cells4 (M0.out.at_ (t:=w.heap.size) mcs);go_wp2_with fail;refine (PL.out _ (HL.out.keep M0.out.w)).mono ?_;rintro e w1 ⟨a1,n1,c1,a2,n2,c2,S,b,rfl,bel,hb,_⟩;have M1:=zid (M0.out.keep bel);clear p0 p1 p2 p3 PL;unfold zag;dsimp only;go_upto_region 2 with (fail)
 cases b with
 | false=>
  clear hb bel M0;have M2:=zid (M1.out.alloc #[.slice a1 n1 c1,.int .i64 S.d.c,.bool S.d.a,.int .i64 S.d.l,.bool S.d.x,.int .i64 S.v,.slice a2 n2 c2,.int .i64 S.x,.int .i64 S.s,.int .i64 S.z,.int .u32 S.c] 31);clear M1;generalize w1.alloc _=w2 at M2 ⊢;go_wp2_with fail;refine (AW.out _).mono ?_;rintro e w3 ⟨rfl,b3⟩;have L3:=zid (M2.out.w.trans (b3.mono M2.out.w.size));clear b3;go_wp2_with fail;go_ret;exact ⟨rfl,L3.out⟩
 | true=>
  obtain ⟨hl40,hSe,ks⟩:=hb rfl;have G:=zkO (q:=20+q) (by omega) HL.out.ok hl40;rw [<-hSe] at G;have M2:=zid ((M0.out.call2 mcs mcs ks).alloc #[.slice a1 n1 c1,.int .i64 S.d.c,.bool S.d.a,.int .i64 S.d.l,.bool S.d.x,.int .i64 S.v,.slice a2 n2 c2,.int .i64 S.x,.int .i64 S.s,.int .i64 S.z,.int .u32 S.c] 31);have hts:w.heap.size<w1.heap.size:=(M1.out.lt (t:=w.heap.size) mcs);clear M0 M1 ks hb bel hSe hl40 HL;generalize w1.alloc _=w2 at M2 ⊢;generalize w1.heap.size=ts at M2 hts ⊢;obtain ⟨p0,p1,p2,p3⟩:=Mfs.cells4 (M2.out.at_ (t:=w.heap.size) (mcm mcs))
  by_cases hsl:1000<s.size
  · have hd1:decide ((1000:Int)<(s.size:Int))=true:=decide_eq_true (by omega)
    go_wp2_with fail
    refine (AW.out _).mono ?_;rintro e w3 ⟨rfl,b3⟩;have L3:=zid (M2.out.w.trans (b3.mono M2.out.w.size));clear b3;go_wp2_with fail;go_ret;exact ⟨rfl,L3.out⟩
  have hd1:decide ((1000:Int)<(s.size:Int))=false:=decide_eq_false (by omega)
  by_cases hdn:20<dn
  · have hd2:decide ((20:Int)<(dn:Int))=true:=decide_eq_true (by omega)
    go_wp2_with fail
    refine (AW.out _).mono ?_;rintro e w3 ⟨rfl,b3⟩;have L3:=zid (M2.out.w.trans (b3.mono M2.out.w.size));clear b3;go_wp2_with fail;go_ret;exact ⟨rfl,L3.out⟩
  have hd2:decide ((20:Int)<(dn:Int))=false:=decide_eq_false (by omega)
  by_cases hxx:549755813888<x
  · have hd3:decide ((549755813888:Int)<x)=true:=decide_eq_true hxx
    go_wp2_with fail
    refine (AW.out _).mono ?_;rintro e w3 ⟨rfl,b3⟩;have L3:=zid (M2.out.w.trans (b3.mono M2.out.w.size));clear b3;go_wp2_with fail;go_ret;exact ⟨rfl,L3.out⟩
  have hd3:decide ((549755813888:Int)<x)=false:=decide_eq_false hxx;have hst:=G.stb (by omega) (by decide) (by decide);have hne:=G.ne;have hv:=G.v;have hbd:=G.d;have IN:=fun (a a':Option Addr) (n c n' c':Nat) (W:World) (h1:IsL FL W (.slice a n c) S.d.f) (h2:IsL Rts.SL W (.slice a' n' c') S.g)=>zcB a a' n c n' c' S x s W _ h1 h2 hne hst hbd (by decide) (by omega) (by omega);have NO:=inst_no2 G (by omega) (by decide) (at_:=x) (L:=s.data.toList);have hx1:=ziK G (at_:=x) (L:=s.data.toList);have YES:=lp_zero G (by omega) (by decide) (at_:=x) (L:=s.data.toList) (by show s.size<=3000;omega);obtain ⟨⟨X,E⟩,hT⟩:∃R,Lg.installT S x s.data.toList=R:=⟨_,rfl⟩;rw [hT] at IN NO YES hx1;dsimp only at NO YES hx1;unfold zag at IN;replace IN:=zid IN;replace NO:=zid NO;replace YES:=zid YES;replace hx1:=zid hx1;clear hst hne hv hbd hT G;obtain ⟨⟨k0,k1,k2,k3,k4⟩,k5,k6,k7,k8,k9,k10⟩:=zab (M2.out.at_ (t:=ts) mcs);go_wp2_with fail;refine (IN.out _ _ _ _ _ _ _ (M2.out.fl mcs) (M2.out.sl mcs)).mono ?_;rintro e w3 ⟨a3,n3,c3,a4,n4,c4,rfl,ks⟩;have M3:=zid ((M2.out.call2 mcs mcs ks).alloc #[.slice a3 n3 c3,.int .i64 X.d.c,.bool X.d.a,.int .i64 X.d.l,.bool X.d.x,.int .i64 X.v,.slice a4 n4 c4,.int .i64 X.x,.int .i64 X.s,.int .i64 X.z,.int .u32 X.c] 31);have htx:ts<w3.heap.size:=Nat.lt_of_lt_of_le (M2.out.lt (t:=ts) mcs) ks.w.size;clear ks M2 IN p0 p1 p2 p3 k0 k1 k2 k3 k4 k5 k6 k7 k8 k9 k10 hd1 hd2 hd3;unfold zag;dsimp only;go_upto_region 5 with (fail);generalize w3.alloc _=w4 at M3 ⊢;generalize w3.heap.size=tx at M3 htx ⊢
  by_cases hE:E=0
  case neg=>
   have hE0:(E != 0)=true:=by simpa using hE
   obtain ⟨⟨k0,k1,k2,k3,k4⟩,k5,k6,k7,k8,k9,k10⟩:=zab (M3.out.at_ (t:=ts) (mcm mcs));have xf:=zaf (M3.out.at_ (t:=tx) mcs)
   have XL:=zid (M3.out.lay1 (t:=tx) (cs':=[(tx,.cells #[.slice a3 n3 c3,.int .i64 X.d.c,.bool X.d.a,.int .i64 X.d.l,.bool S.d.x,.int .i64 X.v,.slice a4 n4 c4,.int .i64 X.x,.int .i64 X.s,.int .i64 X.z,.int .u32 X.c] 31),(ts,.cells #[.slice a1 n1 c1,.int .i64 S.d.c,.bool S.d.a,.int .i64 S.d.l,.bool S.d.x,.int .i64 S.v,.slice a2 n2 c2,.int .i64 S.x,.int .i64 S.s,.int .i64 S.z,.int .u32 S.c] 31)]) mcs 4 (.bool S.d.x) (fun p hp=>by
    rcases List.mem_cons.1 hp with rfl | hp
    · exact .inl rfl
    · rw [List.mem_singleton.1 hp]
      exact .inr ⟨mcm mcs,by show ts≠tx;omega⟩))
   obtain ⟨⟨x0,x1,x2,x3,x4⟩,x5,x6,x7,x8,x9,x10⟩:=zab (M3.out.at_ (t:=tx) mcs);clear M3;go_upto_region 7 with (fail);obtain ⟨Z,hZ,MZ⟩:=XL.out;rw [hZ];have M4:=zid MZ;clear hZ MZ XL xf x0 x1 x2 x3 x4 x5 x6 x7 x8 x9 x10 k0 k1 k2 k3 k4 k5 k6 k7 k8 k9 k10;go_wp2_with fail;refine (AW.out _).mono ?_;rintro e w5 ⟨rfl,b5⟩;have M5:=zid (M4.out.keep b5);clear b5 M4;obtain ⟨⟨k0,k1,k2,k3,k4⟩,k5,k6,k7,k8,k9,k10⟩:=zab (M5.out.at_ (t:=ts) (mcm mcs));obtain ⟨⟨x0,x1,x2,x3,x4⟩,x5,x6,x7,x8,x9,x10⟩:=zab (M5.out.at_ (t:=tx) mcs)
   rcases NO.out hE with h10 | ⟨h10,hxs,hvs,hfs,hcs,has⟩
   · subst h10
     go_wp2_with fail
     go_ret;exact ⟨by first | rfl | simp,M5.out.w⟩
   · have e10:(E==10)=false:=by simpa using h10
     have RS:=fun (W:World) (h1:IsL FL W (.slice a3 n3 c3) S.d.f) (h2:IsL FL W (.slice a1 n1 c1) S.d.f)=>zkp (.slice a3 n3 c3) (.slice a1 n1 c1) S.d.f S.d.c X.d.a S.d.a S.d.x X.d.l S.d.l W h1 h2
     unfold zac at RS;replace RS:=zid RS;have IX:=M5.out.fl (v:= .slice a3 n3 c3) (l:=X.d.f) mcs;rw [hfs] at IX;have HIX:=zid IX;have HAS:=zid has
     have ex:(X.x==S.x)=true:=by simp [hxs]
     have ev:(X.v==S.v)=true:=by simp [hvs]
     rw [hcs] at x1;clear IX hfs hcs hxs hvs h10 NO YES has;go_wp2_with fail;refine (RS.out _ HIX.out (M5.out.fl (v:= .slice a1 n1 c1) (mcm mcs))).mono ?_;rintro e w6 ⟨⟨b,rfl,hb⟩,b6⟩;have M6:=zid (M5.out.keep b6);clear k0 k1 k2 k3 k4 k5 k6 k7 k8 k9 k10 x0 x1 x2 x3 x4 x5 x6 x7 x8 x9 x10 b6 M5 HIX RS;obtain ⟨⟨k0,k1,k2,k3,k4⟩,k5,k6,k7,k8,k9,k10⟩:=zab (M6.out.at_ (t:=ts) (mcm mcs));obtain ⟨⟨x0,x1,x2,x3,x4⟩,x5,x6,x7,x8,x9,x10⟩:=zab (M6.out.at_ (t:=tx) mcs)
     cases b with
     | true=>
      clear hb;go_wp2_with fail;go_ret;exact ⟨by first | rfl | simp,M6.out.w⟩
     | false=>
      have hsa:S.d.a=true:=by
       cases ha:S.d.a
       · obtain ⟨g1,g2⟩:=HAS.out ha
         exact hb (g1.trans ha.symm) g2
       · rfl
      rw [hsa] at k2;clear hb hsa HAS;go_wp2_with fail;go_ret;exact ⟨by first | rfl | simp,M6.out.w⟩
  case pos=>
  subst hE;obtain ⟨l,hpl,hlp,hxx2,hrd⟩:=YES.out rfl;have hx1:=hx1.out rfl;clear NO YES;have RP:=fun W:World=>zcy s W (by omega);unfold zan at RP;rw [hpl] at RP;have hX0:=hlp.a.stb (by decide) (by omega);have hXn:=hlp.a.ne;have RR:=fun (W:World) (h1:IsL FL W (.slice a3 n3 c3) X.d.f) (h2:IsL Rts.SL W (.slice a4 n4 c4) X.g)=>zeg a3 a4 n3 c3 n4 c4 X (x-1) W h1 h2 hX0;rw [hrd] at RR;have RT:=fun (a a':Option Addr) (n c n' c':Nat) (W:World) (h1:IsL FL W (.slice a n c) X.d.f) (h2:IsL Rts.SL W (.slice a' n' c') X.g)=>zbl a a' n c n' c' X X.x W h1 h2 hXn hX0 (by omega);rw [show Lg.stateT X X.x=l from hlp.a.state] at RT;have SM:=zid fun (v1 v2:Value) (l:List Fp.Pr) (W:World) (h1:zaY W v1 l) (h2:zaY W v2 l)=>zgU v1 v2 l W h1 h2;unfold RdVal zbm Rp.zero at RR;unfold zag at RR RT;dsimp only at RR RP;replace RP:=zid RP;replace RR:=zid RR;replace RT:=zid RT;have LP0:=zid hlp
  have nx:(X.x != x)=false:=by simp [hxx2]
  have hwx:IntKind.i64.wrap (x-1)=x-1:=IntWalk.i64_in _ ⟨by omega,by omega⟩;have HXX:=zid hxx2;clear hpl hlp hrd hX0 hXn hxx2;obtain ⟨p0,p1,p2,p3⟩:=Mfs.cells4 (M3.out.at_ (t:=w.heap.size) (mcm (mcm mcs)));go_wp2_with fail;refine (RP.out _).mono ?_;rintro e w5 ⟨lv,rfl,hlv,b5⟩;have M5:=zid (M3.out.keep b5);have LV5:=zid hlv;clear hlv b5 M3 RP p0 p1 p2 p3;obtain ⟨p0,p1,p2,p3⟩:=Mfs.cells4 (M5.out.at_ (t:=w.heap.size) (mcm (mcm mcs)));obtain ⟨⟨k0,k1,k2,k3,k4⟩,k5,k6,k7,k8,k9,k10⟩:=zab (M5.out.at_ (t:=tx) mcs);go_wp2_with fail;refine (RR.out _ (M5.out.fl mcs) (M5.out.sl mcs)).mono ?_;rintro e w6 ⟨rfl,b6⟩;have AL6:=zid (b6.trans ((zbI w6 (.cells #[.int .i64 0,.int .i64 0,.string ⟨#[]⟩] 46)).mono b6.size));have M7:=zid (M5.out.keep AL6.out);have LV7:=zid (LV5.out.below AL6.out (Nat.le_refl _));clear b6 AL6 M5 LV5 RR p0 p1 p2 p3 k0 k1 k2 k3 k4 k5 k6 k7 k8 k9 k10;go_upto_region 10 with (fail);generalize w6.alloc _=w7 at M7 LV7 ⊢;obtain ⟨p0,p1,p2,p3⟩:=Mfs.cells4 (M7.out.at_ (t:=w.heap.size) (mcm (mcm mcs)));obtain ⟨⟨k0,k1,k2,k3,k4⟩,k5,k6,k7,k8,k9,k10⟩:=zab (M7.out.at_ (t:=tx) mcs);go_wp2_with fail;refine (RT.out _ _ _ _ _ _ _ (M7.out.fl mcs) (M7.out.sl mcs)).mono ?_;rintro e w8 ⟨ra,rn,rc,rfl,hp8,b8⟩;have M8:=zid (M7.out.keep b8);have LV8:=zid (LV7.out.below b8 (Nat.le_refl _));have RV8:=zid hp8;clear hp8 b8 M7 LV7 RT p0 p1 p2 p3 k0 k1 k2 k3 k4 k5 k6 k7 k8 k9 k10;go_wp2_with fail;refine (SM.out _ _ l _ RV8.out LV8.out).mono ?_;rintro e w9 ⟨rfl,b9⟩;have M9:=M8.out.keep b9;have LV9:=zid (LV8.out.below b9 (Nat.le_refl _))
  have BX:=zid (show BxR [tx] tx X w9 from ⟨a3,n3,c3,a4,n4,c4,M9.at_ mcs,M9.fl mcs,M9.sl mcs,fun p hp=>by
   obtain rfl:=List.mem_singleton.1 hp
   exact ⟨(M9.f _ mcs).2.1 _ mcs,(M9.g _ mcs).2.1 _ mcs⟩⟩)
  have AX:=zid (M9.at_ (t:=w.heap.size) (mcm (mcm mcs)));have WX:=zid M9.w
  have htp:w.heap.size<tx:=by omega
  clear b9 M9 M8 LV8 RV8 nx;go_upto_region 12 with (fail);go_wp2_with fail
  go_loopw [9,13] (fun v i wr=>∃(k:Nat) (Y:St) (es:List ByteArray),k<=dn/\i= .int .i64 k/\Hid (Lp (20+q) x l (40+2) k es Y)/\Hid (zaY wr v (Fp.fold l es))/\Hid (BxR [tx] tx Y wr)/\Hid (wr.heap[w.heap.size]?=some (.cells #[.int .u8 q,.slice pa pn pc,.int .i64 x,.string s] 24 (0,0)))/\Hid (Below w.heap.size w wr)) (fun _ i _=>dn-(intOf i).toNat)
  case atStart=>exact ⟨0,X,[],Nat.zero_le _,rfl,LP0,LV9,BX,AX,WX⟩
  case round=>
   clear LP0 LV9 BX AX WX HXX hwx;obtain ⟨k,Y,es,hk,rfl,LP,LV,HB,AX,WX⟩:=hrel;obtain ⟨a5,n5,c5,a6,n6,c6,P1⟩:=HB.out
   by_cases hlt:k<dn
   · have hn:=LP.out.a.n
     have hYx:=LP.out.a.x
     have hYv:=LP.out.a.v;have hst:=LP.out.a.stb (by omega) (by omega);obtain ⟨hds,sb,so,rfl,c0⟩:=zij (HS.out.below WX.out (Nat.le_refl _)) hlt;have AP:=fun (W:World) (h1:IsL FL W (.slice a5 n5 c5) Y.d.f) (h2:IsL Rts.SL W (.slice a6 n6 c6) Y.g)=>zdr a5 a6 n5 c5 n6 c6 Y (20+q) ⟨Y.x,0,ds.getD k ⟨#[]⟩⟩ W _ h1 h2 LP.out.a.ne hst LP.out.a.d (by omega) (by omega) ⟨by show _<=Y.x;omega,by show Y.x<=_;omega,by show (-9223372036854775808:Int)<=0;decide,by show (0:Int)<=9223372036854775807;decide,hds⟩;have FA:=LP.out.app (by omega) (by omega) (ds.getD k ⟨#[]⟩);obtain ⟨⟨T,E⟩,hT⟩:∃R,So.append Y (20+q) ⟨Y.x,0,ds.getD k ⟨#[]⟩⟩=R:=⟨_,rfl⟩;rw [hT] at AP FA;dsimp only at FA;replace FA:=zid FA;have hDU:Fp.Up (Fp.fold l es):=LP.out.st.2;have SP:=zid fun (v:Value) (W:World) (h:zaY W v (Fp.fold l es))=>zgh v (Fp.fold l es) (ds.getD k ⟨#[]⟩) W h hDU;unfold zag zbm at AP;dsimp only at AP;replace AP:=zid AP;have hk1:IntKind.i64.wrap ((k:Int)+1)=(k:Int)+1:=IntWalk.i64_in _ ⟨by omega,by omega⟩;have hsb:=block_lt_of_cell c0;have HSW:=zid (fun (W:World) (b:Below w.heap.size w W)=>(zij (HS.out.below b (Nat.le_refl _)) hlt).2);generalize ds.getD k ⟨#[]⟩=dd at*;obtain ⟨⟨k0,k1,k2,k3,k4⟩,k5,k6,k7,k8,k9,k10⟩:=zab P1.d;obtain ⟨p0,p1,p2,p3⟩:=Mfs.cells4 AX.out;have hb0:tx<wr.heap.size:=P1.lt
     have hb1:w.heap.size<wr.heap.size:=by omega
     have hP:=zid (show ∀p∈[tx],p<wr.heap.size from fun p hp=>by rw [List.mem_singleton.1 hp];exact hb0);have BH:=zid P1;clear P1 hst hT HB hds hDU hYx hYv hn;go_upto_region 15 with (fail)
     go_cut [14,15] (fun p e we=>∃t2:Nat,p= .pointer (some ⟨t2,0,none⟩)/\e= .int .i64 E/\BxR [tx] t2 T we/\Below wr.heap.size wr we/\wr.heap.size<=t2)
     case first=>
      clear FA SP LP AW LV HS HSW WX AX SM
      go_region_held3 (fun W=>(∀b o,b<wr.heap.size->W.cell? ⟨b,o,none⟩=wr.cell? ⟨b,o,none⟩)/\Below wr.heap.size wr W) (first | with_reducible assumption | with_reducible exact KW.dr _ | with_reducible exact KW.al11 (by assumption) | with_reducible exact KW.al (by assumption) | with_reducible exact KW.ad (KW.start _) | with_reducible exact KW.ad (by assumption) | with_reducible exact KW.st11 (by assumption) (Nat.le_refl _) | with_reducible exact KW.st11 (by assumption) (by assumption) | with_reducible exact KW.keep (by assumption) (Below.refl _ _).drew | with_reducible exact KW.keep (by assumption) (by assumption)) (first | (go_at_call 16;refine (AP.out _ (by first | exact BH.out.f.keep (KW.bel (by assumption)) | exact BH.out.f.keep (Below.refl _ _).drew) (by first | exact BH.out.g.keep (KW.bel (by assumption)) | exact BH.out.g.keep (Below.refl _ _).drew)).mono ?_;rintro e w5 ⟨a7,n7,c7,a8,n8,c8,rfl,k5'⟩;have q5:=k5'.w;have s5:=KW.keep (by assumption) q5;have q4:=KW.at (by assumption) q5;(first | (with_reducible have z5:=hkeep (zaI _ _ _) q5) | skip);(first | (have zc:=zab z5;have zf:=zaf z5;obtain ⟨⟨y0,y1,y2,y3,y4⟩,y5,y6,y7,y8,y9,y10⟩:=zc) | skip);unfold zag))
      all_goals
       rename_i hh
       clear hh s5;go_wp2_with fail;go_meet
       case rel=>
        first
         | (refine ⟨_,rfl,rfl,?_,?_,?_⟩;(with_reducible exact BxR.A BH.out q4 k5' hP.out);(with_reducible exact BxR.bA q4 k5' _);exact Nat.le_trans q4.size k5'.w.size)
         | (refine ⟨_,rfl,rfl,?_,?_,?_⟩;(with_reducible exact BxR.B BH.out q4 k5' hP.out z5 (Nat.le_refl _) (zaW _ _));(with_reducible exact BxR.bB q4 k5' (Nat.le_refl _));exact Nat.le_refl _)
     case rest=>
      clear k0 k1 k2 k3 k4 k5 k6 k7 k8 k9 k10 c0 AP p0 p1 p2 p3;obtain ⟨t2,rfl,rfl,BT,LT,ht2⟩:=hcut;have P1:=zid (BH.out.keep LT);replace AX:=zid (hkeep AX.out LT);replace WX:=zid (WX.out.trans (LT.mono WX.out.size));replace LV:=zid (LV.out.below LT (Nat.le_refl _));have HBT:=zid BT;clear LT BH BT hP
      by_cases hE:E=0
      case neg=>
       have e1:(E != 0)=true:=by simpa using hE
       clear hE FA HBT SP HSW HS;have hY0:=LP.out.a.stb (by omega) (by omega);have hYn:=LP.out.a.ne;have hYx:=LP.out.a.x;have hYl:=LP.out.a.n;have RT:=fun (W:World) (h1:IsL FL W (.slice a5 n5 c5) Y.d.f) (h2:IsL Rts.SL W (.slice a6 n6 c6) Y.g)=>zbl a5 a6 n5 c5 n6 c6 Y Y.x W h1 h2 hYn hY0 (by omega);rw [show Lg.stateT Y Y.x=Fp.fold l es from LP.out.a.state] at RT;unfold zag at RT;replace RT:=zid RT;clear hY0 hYn hYx hYl LP AX;go_wp2_with fail;refine (AW.out _).mono ?_;rintro e w5 ⟨rfl,b5⟩;have P5:=zid (P1.out.keep b5);have LV5:=zid (LV.out.below b5 (Nat.le_refl _));have W5:=zid (WX.out.trans (b5.mono WX.out.size));clear b5 P1 LV WX;obtain ⟨⟨k0,k1,k2,k3,k4⟩,k5,k6,k7,k8,k9,k10⟩:=zab P5.out.d;go_wp2_with fail;refine (RT.out _ P5.out.f P5.out.g).mono ?_;rintro e w6 ⟨ra,rn,rc,rfl,hp6,b6⟩;have RV6:=zid hp6;have LV6:=zid (LV5.out.below b6 (Nat.le_refl _));have W6:=zid (W5.out.trans (b6.mono W5.out.size));clear hp6 b6 W5 LV5 P5 k0 k1 k2 k3 k4 k5 k6 k7 k8 k9 k10;go_wp2_with fail;refine (SM.out _ _ (Fp.fold l es) _ RV6.out LV6.out).mono ?_;rintro e w7 ⟨rfl,b7⟩;have W7:=zid (W6.out.trans (b7.mono W6.out.size));clear b7;go_wp2_with fail;go_ret;exact ⟨by first | rfl | simp,W7.out⟩
      case pos=>
      subst hE;obtain ⟨FL1,FE⟩:=FA.out rfl;obtain ⟨a7,n7,c7,a8,n8,c8,B4⟩:=HBT.out;obtain ⟨⟨x0,x1,x2,x3,x4⟩,x5,x6,x7,x8,x9,x10⟩:=zab B4.d;obtain ⟨⟨k0,k1,k2,k3,k4⟩,k5,k6,k7,k8,k9,k10⟩:=zab P1.out.d;have kf:=zaf P1.out.d;have LY:=zid (Bx.copy B4 P1.out mcs);have GR:=zid (zlp wc tx (.slice a7 n7 c7) (.int .i64 T.d.c) (.bool T.d.a) (.int .i64 T.d.l) (.bool T.d.x) (.int .i64 T.v) (.slice a8 n8 c8) (.int .i64 T.x) (.int .i64 T.s) (.int .i64 T.z) (.int .u32 T.c));have HFL:=zid FL1;have HFE:=zid FE;clear FL1 FE FA HBT B4 LP;go_upto_region 18 with (fail);obtain ⟨Z,hZ,B5,_,_⟩:=LY.out;have gr:=GR.out;rw [hZ] at gr ⊢;have B6:=zid B5;have AZ:=zid ((gr.block w.heap.size (Array.getElem?_eq_some_iff.1 AX.out).1 (fun e=>by have:=Option.some.inj e;omega)).trans AX.out);have WZ:=zid (WX.out.grown gr WX.out.size (fun j e=>by have:=Option.some.inj e;omega));have LZ:=zid (zkK LV.out P1.out.d (zho _ _ Y (fun _ e=>by cases e) (fun _ e=>by cases e)) gr);clear hZ LY GR gr B5 AX WX LV P1 kf x0 x1 x2 x3 x4 x5 x6 x7 x8 x9 x10 k0 k1 k2 k3 k4 k5 k6 k7 k8 k9 k10;obtain ⟨sb',so',e,c0⟩:=HSW.out _ WZ.out
      injection e with e
      injection e with e1 e2
      subst e1 e2;go_wp2_with fail;refine (SP.out _ _ LZ.out).mono ?_;rintro e w5 ⟨v2,rfl,ho,b5⟩;have hv2:zaY w5 v2 (Fp.fold l (es++[dd])):=zkV (by rw [HFE.out];exact ho) HFL.out.st;have HV2:=zid hv2;have B7:=zid (B6.out.keep b5);have A7:=zid (hkeep AZ.out b5);have W7:=zid (WZ.out.trans (b5.mono WZ.out.size));clear hv2 ho b5 B6 AZ WZ LZ HSW SP HFE c0;go_wp2_with fail
      go_roundw
      case rel=>exact ⟨k+1,T,es++[dd],by omega,by go_num,HFL,HV2,⟨_,_,_,_,_,_,B7.out⟩,A7,W7⟩
      case measure=>simp [intOf];omega
   · have P1:=zid P1
     have hge:¬(k:Int)<(dn:Int):=by omega
     clear HS HB hlt;have hY0:=LP.out.a.stb (by omega) (by omega);have hYn:=LP.out.a.ne;have hYx:=LP.out.a.x;have hYl:=LP.out.a.n;have RT:=fun (W:World) (h1:IsL FL W (.slice a5 n5 c5) Y.d.f) (h2:IsL Rts.SL W (.slice a6 n6 c6) Y.g)=>zbl a5 a6 n5 c5 n6 c6 Y Y.x W h1 h2 hYn hY0 (by omega);rw [show Lg.stateT Y Y.x=Fp.fold l es from LP.out.a.state] at RT;unfold zag at RT;replace RT:=zid RT;clear hY0 hYn hYx hYl LP AX;go_wp2_with fail;refine (AW.out _).mono ?_;rintro e w5 ⟨rfl,b5⟩;have P5:=zid (P1.out.keep b5);have LV5:=zid (LV.out.below b5 (Nat.le_refl _));have W5:=zid (WX.out.trans (b5.mono WX.out.size));clear b5 P1 LV WX;obtain ⟨⟨k0,k1,k2,k3,k4⟩,k5,k6,k7,k8,k9,k10⟩:=zab P5.out.d;go_wp2_with fail;refine (RT.out _ P5.out.f P5.out.g).mono ?_;rintro e w6 ⟨ra,rn,rc,rfl,hp6,b6⟩;have RV6:=zid hp6;have LV6:=zid (LV5.out.below b6 (Nat.le_refl _));have W6:=zid (W5.out.trans (b6.mono W5.out.size));clear hp6 b6 W5 LV5 P5 k0 k1 k2 k3 k4 k5 k6 k7 k8 k9 k10;go_wp2_with fail;refine (SM.out _ _ (Fp.fold l es) _ RV6.out LV6.out).mono ?_;rintro e w7 ⟨rfl,b7⟩;have W7:=zid (W6.out.trans (b7.mono W6.out.size));clear b7;go_wp2_with fail;go_ret;exact ⟨by first | rfl | simp,W7.out⟩
end Ins
namespace Ins
open Go.RowKit So Dsk Rts Sto
def zfV:Dp.Dk->List ByteArray->Dp.Dk×Int
 | D,[]=>(D,9)
 | D,n::l=>if (Dp.delete D n).2≠0 then Dp.delete D n else zfV (Dp.delete D n).1 l
theorem zdY {D:Dp.Dk} {n:ByteArray} {R:Dp.Dk×Int} (l:List ByteArray) (h:Dp.delete D n=R):zfV D (n::l)=if R.2≠0 then R else zfV R.1 l:=by subst h;rfl
theorem undo_one (D:Dp.Dk) (e:Int) (n:ByteArray):Lg.undo (D,e) n=if e=9 then zfV D [n] else (D,e):=by
 obtain ⟨R,hR⟩:∃R,Dp.delete D n=R:=⟨_,rfl⟩;rw [zdY _ hR];show (if e=9 then ((Dp.delete D n).1,if (Dp.delete D n).2=0 then 9 else (Dp.delete D n).2) else (D,e))=_;rw [hR]
 by_cases h:R.2=0
 · rw [if_pos h,if_neg (c:=R.2≠0) (fun g=>g h)];rfl
 · rw [if_neg h,if_pos (c:=R.2≠0) h]
theorem undo_two (D:Dp.Dk) (e:Int) (n m:ByteArray):Lg.undo2 (D,e) n m=if e=9 then zfV D [n,m] else (D,e):=by
 obtain ⟨R,hR⟩:∃R,Dp.delete D n=R:=⟨_,rfl⟩;rw [zdY _ hR];show (if e=9 then (if (Dp.delete D n).2≠0 then Dp.delete D n else ((Dp.delete (Dp.delete D n).1 m).1,if (Dp.delete (Dp.delete D n).1 m).2=0 then 9 else (Dp.delete (Dp.delete D n).1 m).2)) else (D,e))=_;rw [hR];obtain ⟨Q,hQ⟩:∃Q,Dp.delete R.1 m=Q:=⟨_,rfl⟩;rw [zdY _ hQ,hQ]
 by_cases h:Q.2=0
 · rw [if_pos h,if_neg (c:=Q.2≠0) (fun g=>g h)];rfl
 · rw [if_neg h,if_pos (c:=Q.2≠0) h]
theorem zgg (fa:Option Addr) (fn fc:Nat) (D:Dp.Dk) (e:Int) (la:Option Addr) (ln lc:Nat) (l:List ByteArray) (w:World) (k:Nat) (hv:IsL FL w (.slice fa fn fc) D.f) (hl:IsL Trm.NL w (.slice la ln lc) l) (hB:Bd D k) (hk:k+l.length<=90000):
 Calls Tryz.prog 71 #[zac (.slice fa fn fc) D,.int .i64 e,.slice la ln lc] w (zaL w (.slice fa fn fc) (if e=9 then zfV D l else (D,e))):=by
 have hlr:=hl.room;have hln:=hl.len.1;have M0:=((Ms.start (gv:= .slice none 0 0) (lg:=[]) hv (IsL.nil w none 0)).alloc #[.slice fa fn fc,.int .i64 D.c,.bool D.a,.int .i64 D.l,.bool D.x] 27).alloc #[.slice none 0 0,.int .i64 0,.bool false,.int .i64 0,.bool false] 27;rw [World.size_alloc] at M0;have HD0:=zid (show Dv w (.slice fa fn fc) D _ from ⟨_,_,_,M0.sub (fun _ h=>h) (fun _ h=>h) (fun _ h=>absurd h List.not_mem_nil)⟩);obtain ⟨p0,p1,p2,p3,p4⟩:=zaa (M0.at_ (t:=w.heap.size) (mcm mcs));obtain ⟨q0,q1,q2,q3,q4⟩:=zaa (M0.at_ (t:=w.heap.size+1) mcs);obtain ⟨qf0,qf1,qf2,qf3,qf4⟩:=zad (M0.at_ (t:=w.heap.size+1) mcs);have HL:=zid hl;have HB:=zid hB;have HLN:=zid hln
 have hkn:k+ln<=90000:=by omega
 obtain ⟨R,hR⟩:∃R,(if e=9 then zfV D l else (D,e))=R:=⟨_,rfl⟩;have HR:=zid hR;rw [hR];unfold zac
 by_cases h9:e=9
 case neg=>
  have e9:(e != 9)=true:=by simpa using h9
  have HRR:=zid (show R=(D,e) by rw [<-HR.out,if_neg h9]);have HV:=zid hv;clear hl hB hk M0 hR hln h9 HR HD0 hv
  go_enter Tryz.func71,Tryz.ntmps71
  go_wp2_with fail;obtain ⟨g0,g1,gb,gs⟩:=zay w #[.slice fa fn fc,.int .i64 D.c,.bool D.a,.int .i64 D.l,.bool D.x] #[.slice fa fn fc,.int .i64 D.c,.bool D.a,.int .i64 D.l,.bool D.x] 27 27;obtain ⟨z0,z1,z2,z3,z4⟩:=zaa g1;refine bodyPost_ret (v:= .tuple #[.agg #[.slice fa fn fc,.int .i64 D.c,.bool D.a,.int .i64 D.l,.bool D.x],.int .i64 e]) (by simp [results,Tryz.results71,go_sem,z0,z1,z2,z3,z4]) rfl ?_;rw [HRR.out];exact ⟨_,_,_,rfl,HV.out.keep gb,fun _ _ h=>h,gb⟩
 subst h9;rw [if_pos rfl] at hR;have HU:=zid hR;clear hv hl hB hk M0 hR hln HR
 go_enter Tryz.func71,Tryz.ntmps71
 go_upto_region 3 with (fail);generalize World.alloc (World.alloc w _) _=w1 at HD0 p0 p1 p2 p3 p4 q0 q1 q2 q3 q4 qf0 qf1 qf2 qf3 qf4 ⊢;clear p0 p1 p2 p3 p4 q0 q1 q2 q3 q4 qf0 qf1 qf2 qf3 qf4;go_wp2_with fail
 go_loopw [8] (fun i wr=>∃n:Nat,n<=ln/\i= .int .i64 n/\Hid (∃D',Dv w (.slice fa fn fc) D' wr/\zfV D' (l.drop n)=R/\Bd D' (k+n))) (fun i _=>ln-(intOf i).toNat)
 case atStart=>exact ⟨0,Nat.zero_le _,rfl,zid ⟨D,HD0.out,HU.out,HB.out⟩⟩
 case round=>
  clear HD0 HU;obtain ⟨n,hn,rfl,HH⟩:=hrel;obtain ⟨D',⟨a,m,c,M⟩,hT,hBd⟩:=HH.out;have HM:=zid M;have hnl:=HLN.out
  by_cases hlt:n<ln
  · obtain ⟨b,off,rfl,c0⟩:=Trm.nl_at (HL.out.keep M.w) hlt
    rw [drop_get (z:=⟨#[]⟩) (show n<l.length by omega)] at hT
    generalize l.getD n ⟨#[]⟩=nm at*;obtain ⟨⟨X,E⟩,hX⟩:∃R,Dp.delete D' nm=R:=⟨_,rfl⟩;rw [zdY _ hX] at hT;dsimp only at hT;have HT:=zid hT;have RDL:=fun (W:World) (h:IsL FL W (.slice a m c) D'.f)=>zbe hBd (by omega) nm h;have HB2:=zam hBd nm;rw [hX] at RDL HB2;replace HB2:=zid HB2;unfold zac at RDL;replace RDL:=zid RDL;have HFL:=zid (M.fl mcs);have hl0:=M.lt (t:=w.heap.size) (mcm mcs);have hl1:=M.lt (t:=w.heap.size+1) mcs;have hgb:=block_lt_of_cell c0;obtain ⟨k0,k1,k2,k3,k4⟩:=zaa (M.at_ (t:=w.heap.size) (mcm mcs));clear M hT hBd HH hX hnl;go_upto_region 6 with (fail)
    go_region_held3 (fun W=>(∀b o,b<wr.heap.size->W.cell? ⟨b,o,none⟩=wr.cell? ⟨b,o,none⟩)/\Below wr.heap.size wr W) (first | with_reducible assumption | with_reducible exact KW.dr _ | with_reducible exact KW.al5 (by assumption) | with_reducible exact KW.al (by assumption) | with_reducible exact KW.ad (KW.start _) | with_reducible exact KW.ad (by assumption) | with_reducible exact KW.st5 (by assumption) (by assumption) | with_reducible exact KW.keep (by assumption) (Below.refl _ _).drew | with_reducible exact KW.keep (by assumption) (by assumption)) (first | (go_at_call 34;refine (RDL.out _ (by first | exact HFL.out.keep (KW.bel (by assumption)) | exact HFL.out.keep (Below.refl _ _).drew)).mono ?_;rintro e w5 ⟨a5,n5,c5,rfl,k5'⟩;have q5:=k5'.w;have s5:=KW.keep (by assumption) q5;have q4:=KW.at (by assumption) q5;(first | (with_reducible have z5:=hkeep (zaI _ _ _) q5;have x5:wr.heap.size<=wr.heap.size:=Nat.le_refl _;have y5:=zaW wr (.cells #[.slice none 0 0,.int .i64 0,.bool false,.int .i64 0,.bool false] 27)) | skip);(first | (have zc:=zaa z5;have zf:=zad z5;obtain ⟨y0,y1,y2,y3,y4⟩:=zc;obtain ⟨yf0,yf1,yf2,yf3,yf4⟩:=zf) | skip);unfold zac;dsimp only))
    all_goals
     rename_i hh
     have kk:DkS _ (.slice a m c) X _ _:=k5';clear hh s5 k5'
     first
      | (obtain ⟨Z,hZ,hy,MR⟩:=DkR.A' HM.out mcs q4 kk;rw [hZ])
      | (obtain ⟨Z,hZ,hy,MR⟩:=DkR.B' HM.out mcs q4 kk z5 x5 y5;rw [hZ];clear z5 x5 y5 y0 y1 y2 y3 y4 yf0 yf1 yf2 yf3 yf4)
     clear hZ kk q4 q5 k0 k1 k2 k3 k4 c0 hgb HM HFL RDL;obtain ⟨a6,n6,c6,M6⟩:=MR;obtain ⟨y0,y1,y2,y3,y4⟩:=zaa (M6.at_ mcs);obtain ⟨q0,q1,q2,q3,q4⟩:=zaa (M6.at_ (t:=w.heap.size) (mcm (mcm mcs)));obtain ⟨qf0,qf1,qf2,qf3,qf4⟩:=zad (M6.at_ (t:=w.heap.size) (mcm (mcm mcs)));obtain ⟨Y,hY,MY⟩:=M6.lay5 (t:=w.heap.size) (cs':=[(w.heap.size+1,z5),(w.heap.size,.cells #[.slice a6 n6 c6,.int .i64 X.c,.bool X.a,.int .i64 X.l,.bool X.x] 27)]) (mcm (mcm mcs)) (.slice a6 n6 c6) (.int .i64 X.c) (.bool X.a) (.int .i64 X.l) (.bool X.x) (zb0 (.inr ⟨mcm mcs,by show w.heap.size+1≠w.heap.size;omega⟩) (.inl rfl));have HMY:=zid (show Dv w (.slice fa fn fc) X Y from ⟨a6,n6,c6,MY.sub (fun _ h=>h) (fun p hp=>by rw [List.mem_singleton] at hp;rw [hp];exact mcs) (fun _ h=>h)⟩);replace hY:=zid hY;clear M6 MY;go_upto_region 8 with (fail);rw [hY.out];clear hY y0 y1 y2 y3 y4 q0 q1 q2 q3 q4 qf0 qf1 qf2 qf3 qf4
     by_cases h0:E=0
     · subst h0
       have HT2:=zid (HT.out.symm.trans (if_neg (fun h=>h rfl)))
       clear HT;go_wp2_with fail
       go_roundw
       case rel=>exact ⟨n+1,by omega,by go_num,zid ⟨X,HMY.out,HT2.out.symm,HB2.out⟩⟩
       case measure=>simp [intOf];omega
     · have e0:(E != 0)=true:=by simpa using h0
       have HRR:=zid (show R=(X,E) by rw [<-HT.out,if_pos h0])
       obtain ⟨a7,n7,c7,M7⟩:=HMY.out;obtain ⟨p0,p1,p2,p3,p4⟩:=zaa (M7.at_ (t:=w.heap.size) (mcm mcs));obtain ⟨q0,q1,q2,q3,q4⟩:=zaa (M7.at_ (t:=w.heap.size+1) mcs);obtain ⟨qf0,qf1,qf2,qf3,qf4⟩:=zad (M7.at_ (t:=w.heap.size+1) mcs);obtain ⟨Z,hZ,MZ⟩:=M7.lay5 (t:=w.heap.size+1) (cs':=[(w.heap.size+1,.cells #[.slice a7 n7 c7,.int .i64 X.c,.bool X.a,.int .i64 X.l,.bool X.x] 27)]) mcs (.slice a7 n7 c7) (.int .i64 X.c) (.bool X.a) (.int .i64 X.l) (.bool X.x) (fun p hp=> .inl (List.mem_singleton.1 hp));have HZ:=zid hZ;have HMZ:=zid MZ;clear M7 hZ MZ HMY HT h0;go_wp2_with fail;rw [HZ.out];obtain ⟨z0,z1,z2,z3,z4⟩:=zaa (HMZ.out.at_ mcs);refine bodyPost_ret (v:= .tuple #[.agg #[.slice a7 n7 c7,.int .i64 X.c,.bool X.a,.int .i64 X.l,.bool X.x],.int .i64 E]) (by simp [results,Tryz.results71,go_sem,z0,z1,z2,z3,z4]) rfl ?_;rw [HRR.out];exact ⟨_,_,_,rfl,HMZ.out.dks mcs⟩
  · obtain rfl:n=ln:=by omega
    rw [show l.drop n=[] from List.drop_of_length_le (by omega)] at hT
    have HRR:=zid (show R=(D',9) from hT.symm);obtain ⟨p0,p1,p2,p3,p4⟩:=zaa (M.at_ (t:=w.heap.size) (mcm mcs));obtain ⟨q0,q1,q2,q3,q4⟩:=zaa (M.at_ (t:=w.heap.size+1) mcs);obtain ⟨qf0,qf1,qf2,qf3,qf4⟩:=zad (M.at_ (t:=w.heap.size+1) mcs);obtain ⟨Z,hZ,MZ⟩:=M.lay5 (t:=w.heap.size+1) (cs':=[(w.heap.size+1,.cells #[.slice a m c,.int .i64 D'.c,.bool D'.a,.int .i64 D'.l,.bool D'.x] 27)]) mcs (.slice a m c) (.int .i64 D'.c) (.bool D'.a) (.int .i64 D'.l) (.bool D'.x) (fun p hp=> .inl (List.mem_singleton.1 hp));have HZ:=zid hZ;have HMZ:=zid MZ;clear M hZ MZ hT hBd HH hnl;go_wp2_with fail;rw [HZ.out];obtain ⟨z0,z1,z2,z3,z4⟩:=zaa (HMZ.out.at_ mcs);refine bodyPost_ret (v:= .tuple #[.agg #[.slice a m c,.int .i64 D'.c,.bool D'.a,.int .i64 D'.l,.bool D'.x],.int .i64 9]) (by simp [results,Tryz.results71,go_sem,z0,z1,z2,z3,z4]) rfl ?_;rw [HRR.out];exact ⟨_,_,_,rfl,HMZ.out.dks mcs⟩
end Ins
end Go.Proofs.YtgmppfpllogdcaaGreat

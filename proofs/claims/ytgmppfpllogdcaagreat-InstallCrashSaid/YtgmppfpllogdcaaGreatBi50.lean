/-
  Parts of what the laws of this seat stand on:Law15C.
-/
import Derived.Test.YtgmppfpllogdcaaGreatBi1
import Derived.Test.YtgmppfpllogdcaaGreatBi12
import Derived.Test.YtgmppfpllogdcaaGreatBi20
import Derived.Test.YtgmppfpllogdcaaGreatBi31
import Derived.Test.YtgmppfpllogdcaaGreatBi33
import Derived.Test.YtgmppfpllogdcaaGreatBi40
import Derived.Test.YtgmppfpllogdcaaGreatBi45
import Derived.Test.YtgmppfpllogdcaaGreatBi46
import Derived.Test.YtgmppfpllogdcaaGreatBi47
import Derived.Test.YtgmppfpllogdcaaGreatBi49
set_option maxRecDepth 100000
set_option maxHeartbeats 6400000
namespace Go.Proofs.YtgmppfpllogdcaaGreat
namespace Ins
open Go.RowKit So Dsk Rts Sto Trm
theorem crash15 (g:Ask15) (fu:Int) (w:World) (hg:g.Ok w) (hfu:0<=fu/\fu<=255):Calls Tryz.prog 5 #[g.val,.int .u8 fu] w fun e w'=>e= .returned (.bool true)/\Below w.heap.size w w':=by
 obtain ⟨q,pa,pn,pc,l0,x,s⟩:=g;obtain ⟨hq,h,hx,hs⟩:=hg;dsimp only at hq h hx hs;unfold Ask15.val;dsimp only;have PL:=zid fun (W:World) (hW:IsL PaL W (.slice pa pn pc) l0)=>zdB (20+q) pa pn pc l0 W (by omega) hW;have HL:=zid h;have AW:=zid fun W:World=>zh9 W;have hw20:IntKind.i64.wrap (20+q)=20+q:=IntWalk.i64_in _ ⟨by omega,by omega⟩;have hwq:IntKind.i64.wrap q=q:=IntWalk.i64_in _ ⟨by omega,by omega⟩;have M0:=zid (ms0 (heap_alloc_new w (.cells #[.int .u8 q,.slice pa pn pc,.int .i64 x,.string s] 24)) (Nat.le_refl _) (zbI w _));clear h
 go_enter Tryz.func5,Tryz.ntmps5
 go_upto_region 1 with (fail);generalize w.alloc _=w0 at M0 ⊢;obtain ⟨p0,p1,p2,p3⟩:=Mfs.cells4 (M0.out.at_ (t:=w.heap.size) mcs);go_wp2_with fail;refine (PL.out _ (HL.out.keep M0.out.w)).mono ?_;rintro e w1 ⟨a1,n1,c1,a2,n2,c2,S,b,rfl,bel,hb,_⟩;have M1:=zid (M0.out.keep bel);clear p0 p1 p2 p3 PL;unfold zag;dsimp only;go_upto_region 2 with (fail)
 cases b with
 | false=>
  clear hb bel M0;have M2:=zid (M1.out.alloc #[.slice a1 n1 c1,.int .i64 S.d.c,.bool S.d.a,.int .i64 S.d.l,.bool S.d.x,.int .i64 S.v,.slice a2 n2 c2,.int .i64 S.x,.int .i64 S.s,.int .i64 S.z,.int .u32 S.c] 31);clear M1;generalize w1.alloc _=w2 at M2 ⊢;go_wp2_with fail;refine (AW.out _).mono ?_;rintro e w3' ⟨rfl,b3⟩;have L3:=zid (M2.out.w.trans (b3.mono M2.out.w.size));clear b3;go_wp2_with fail;go_ret;exact ⟨by first | rfl | simp,L3.out⟩
 | true=>
  obtain ⟨hl40,hSe,ks⟩:=hb rfl;have G:=zkO (q:=20+q) (by omega) HL.out.ok hl40;rw [<-hSe] at G;have M2:=zid ((M0.out.call2 mcs mcs ks).alloc #[.slice a1 n1 c1,.int .i64 S.d.c,.bool S.d.a,.int .i64 S.d.l,.bool S.d.x,.int .i64 S.v,.slice a2 n2 c2,.int .i64 S.x,.int .i64 S.s,.int .i64 S.z,.int .u32 S.c] 31);have hts:w.heap.size<w1.heap.size:=(M1.out.lt (t:=w.heap.size) mcs);clear M0 M1 ks hb bel hSe hl40 HL;generalize w1.alloc _=w2 at M2 hts ⊢;generalize w1.heap.size=ts at M2 hts ⊢;obtain ⟨p0,p1,p2,p3⟩:=Mfs.cells4 (M2.out.at_ (t:=w.heap.size) (mcm mcs));obtain ⟨⟨k0,k1,k2,k3,k4⟩,k5,k6,k7,k8,k9,k10⟩:=zab (M2.out.at_ (t:=ts) mcs)
  have hn2:((n2:Int)==0)=false:=by
   have h1:n2=S.g.length:=(M2.out.sl (v:= .slice a2 n2 c2) (l:=S.g) mcs).len.1;have h2:=List.length_pos_iff.2 G.ne
   simp;omega
  by_cases hsl:1000<s.size
  · have hd1:decide ((1000:Int)<(s.size:Int))=true:=decide_eq_true (by omega)
    go_wp2_with fail
    refine (AW.out _).mono ?_;rintro e w3' ⟨rfl,b3⟩;have L3:=zid (M2.out.w.trans (b3.mono M2.out.w.size));clear b3;go_wp2_with fail;go_ret;exact ⟨by first | rfl | simp,L3.out⟩
  have hd1:decide ((1000:Int)<(s.size:Int))=false:=decide_eq_false (by omega)
  by_cases hsc:0<S.d.c
  · have hd2:decide ((0:Int)<S.d.c)=true:=decide_eq_true hsc
    go_wp2_with fail
    refine (AW.out _).mono ?_;rintro e w3' ⟨rfl,b3⟩;have L3:=zid (M2.out.w.trans (b3.mono M2.out.w.size));clear b3;go_wp2_with fail;go_ret;exact ⟨by first | rfl | simp,L3.out⟩
  have hd2:decide ((0:Int)<S.d.c)=false:=decide_eq_false hsc
  by_cases hsx:S.d.x=true
  · rw [hsx] at k4
    go_wp2_with fail
    refine (AW.out _).mono ?_;rintro e w3' ⟨rfl,b3⟩;have L3:=zid (M2.out.w.trans (b3.mono M2.out.w.size));clear b3;go_wp2_with fail;go_ret;exact ⟨by first | rfl | simp,L3.out⟩
  have hsx':S.d.x=false:=by simpa using hsx
  rw [hsx'] at k4;have SY:=fun (W:World) (h1:IsL FL W (.slice a1 n1 c1) S.d.f) (h2:IsL Rts.SL W (.slice a2 n2 c2) S.g)=>zda a1 a2 n1 c1 n2 c2 S W _ h1 h2 G.ne (G.stb (by omega) (by decide) (by decide)) G.d (by decide);obtain ⟨GT,hTc,hTs⟩:=sync15 G (by omega);obtain ⟨⟨T,ES⟩,hT⟩:∃R,zat S=R:=⟨_,rfl⟩;rw [hT] at SY GT hTc hTs;dsimp only at GT hTc hTs;unfold zag at SY;rw [hsx'] at SY;replace SY:=zid SY;have HGT:=zid GT;clear GT hT G;go_wp2_with fail;refine (SY.out _ (M2.out.fl mcs) (M2.out.sl mcs)).mono ?_;rintro e w3 ⟨a3,n3,c3,a4,n4,c4,rfl,ks⟩;have kf:=zaf (hkeep (M2.out.at_ (t:=ts) mcs) ks.w);have kc:=zab (hkeep (M2.out.at_ (t:=ts) mcs) ks.w)
  have LY:=zid ((M2.out.call2 mcs mcs ks).lay11 (t:=ts) (cs':=[(ts,.cells #[.slice a3 n3 c3,.int .i64 T.d.c,.bool T.d.a,.int .i64 T.d.l,.bool T.d.x,.int .i64 T.v,.slice a4 n4 c4,.int .i64 T.x,.int .i64 T.s,.int .i64 T.z,.int .u32 T.c] 31),(w.heap.size,.cells #[.int .u8 q,.slice pa pn pc,.int .i64 x,.string s] 24)]) mcs (.slice a3 n3 c3) (.int .i64 T.d.c) (.bool T.d.a) (.int .i64 T.d.l) (.bool T.d.x) (.int .i64 T.v) (.slice a4 n4 c4) (.int .i64 T.x) (.int .i64 T.s) (.int .i64 T.z) (.int .u32 T.c) (fun p hp=>by
   rcases List.mem_cons.1 hp with rfl | hp
   · exact .inl rfl
   · rw [List.mem_singleton.1 hp]
     exact .inr ⟨mcm mcs,by show w.heap.size≠ts;omega⟩))
  clear p0 p1 p2 p3 k0 k1 k2 k3 k4 k5 k6 k7 k8 k9 k10 ks M2 SY hd1 hd2 hn2;obtain ⟨⟨k0,k1,k2,k3,k4⟩,k5,k6,k7,k8,k9,k10⟩:=kc;unfold zag;dsimp only;go_upto_region 5 with (fail);obtain ⟨Z,hZ,MZ⟩:=LY.out;rw [hZ];have M2:=zid MZ;clear hZ MZ LY kf k0 k1 k2 k3 k4 k5 k6 k7 k8 k9 k10;obtain ⟨⟨k0,k1,k2,k3,k4⟩,k5,k6,k7,k8,k9,k10⟩:=zab (M2.out.at_ (t:=ts) mcs)
  by_cases hTx:T.d.x=true
  · rw [hTx] at k4
    go_wp2_with fail
    refine (AW.out _).mono ?_;rintro e w3' ⟨rfl,b3⟩;have L3:=zid (M2.out.w.trans (b3.mono M2.out.w.size));clear b3;go_wp2_with fail;go_ret;exact ⟨by first | rfl | simp,L3.out⟩
  have hTx':T.d.x=false:=by simpa using hTx
  replace hTs:=hTs hTx';have K4:=zid k4;rw [hTx'] at k4;have GA:=zid (arm15 HGT.out (i:=fu%16) (by omega));have RA:=fun (W:World) (h:IsL FL W (.slice a3 n3 c3) T.d.f)=>rarm_val (.slice a3 n3 c3) T.d (fu%16) W h;obtain ⟨A,hA⟩:∃A,Dp.arm T.d (fu%16)=A:=⟨_,rfl⟩;rw [hA] at RA GA
  have hAf:A.f=T.d.f:=by rw [<-hA];rfl
  have hAc:A.c<=0:=by rw [<-hA];exact hTc
  unfold zac at RA;rw [hTx'] at RA;replace RA:=zid RA
  have hm1:0<=fu%16/\fu%16<16:=by omega
  clear hA hTc HGT;go_wp2_with fail;refine (RA.out _ (M2.out.fl mcs)).mono ?_;rintro e w5 ⟨rfl,b5⟩;have kf:=zaf (hkeep (M2.out.at_ (t:=ts) mcs) b5);have kc:=zab (hkeep (M2.out.at_ (t:=ts) mcs) b5)
  have LY:=zid ((M2.out.keep b5).layD (t:=ts) (cs':=[(ts,.cells #[.slice a3 n3 c3,.int .i64 A.c,.bool A.a,.int .i64 A.l,.bool A.x,.int .i64 T.v,.slice a4 n4 c4,.int .i64 T.x,.int .i64 T.s,.int .i64 T.z,.int .u32 T.c] 31),(w.heap.size,.cells #[.int .u8 q,.slice pa pn pc,.int .i64 x,.string s] 24)]) mcs (.slice a3 n3 c3) (.int .i64 A.c) (.bool A.a) (.int .i64 A.l) (.bool A.x) (fun p hp=>by
   rcases List.mem_cons.1 hp with rfl | hp
   · exact .inl rfl
   · rw [List.mem_singleton.1 hp]
     exact .inr ⟨mcm mcs,by show w.heap.size≠ts;omega⟩))
  clear k0 k1 k2 k3 k4 k5 k6 k7 k8 k9 k10 b5 M2 RA K4;obtain ⟨⟨k0,k1,k2,k3,k4⟩,k5,k6,k7,k8,k9,k10⟩:=kc;go_upto_region 8 with (fail);obtain ⟨Z,hZ,MZ⟩:=LY.out;rw [hZ];have M2:=zid MZ;clear hZ MZ LY kf k0 k1 k2 k3 k4 k5 k6 k7 k8 k9 k10;have hgs:=GA.out.segs;have hgv:=GA.out.v;have hgx:=GA.out.x
  have hL:s.data.toList.length<=3000:=by show s.size<=3000;omega
  have BX:=zcF (at_:=x) GA.out.d hL
  have IN:=fun (a a':Option Addr) (n c n' c':Nat) (W:World) (h1:IsL FL W (.slice a n c) A.f) (h2:IsL Rts.SL W (.slice a' n' c') T.g)=>zcB a a' n c n' c' {T with d:=A} x s W _ h1 h2 GA.out.ne (GA.out.stb (by omega) (by decide) (by decide)) GA.out.d (by decide) (by omega) (by omega)
  have CR:=crh GA.out ⟨by omega,by omega⟩ (by decide) hAc hTs (at_:=x) hL
  obtain ⟨⟨X,E⟩,hT⟩:∃R,Lg.installT {T with d:=A} x s.data.toList=R:=⟨_,rfl⟩
  rw [hT] at IN CR BX;dsimp only at CR BX hgs hgx;have CO:=fun (a:Option Addr) (n c:Nat) (W:World) (h:IsL FL W (.slice a n c) X.d.f)=>Ro.rcrash_s (kv:= .slice none 0 0) (ks:=[]) BX (by omega) h (IsL.nil W none 0);have OP:=fun (a:Option Addr) (n c:Nat) (W:World) (h:IsL FL W (.slice a n c) (Dp.crash X.d []).f)=>Ro.ropen14_any a n c (Dp.crash X.d []) W _ h (Ro.bd_crash BX []) (by omega);obtain ⟨⟨Y,E2⟩,hY⟩:∃R,Lg.openT (Dp.crash X.d [])=R:=⟨_,rfl⟩;rw [hY] at OP CR;obtain ⟨hE2,CR⟩:=CR;dsimp only at hE2 CR;subst hE2;have SBT:=GA.out.stb (by omega) (by decide) (by decide)
  have ST:=fun (a a':Option Addr) (n c n' c':Nat) (W:World) (h1:IsL FL W (.slice a n c) A.f) (h2:IsL Rts.SL W (.slice a' n' c') T.g)=>zbl a a' n c n' c' {T with d:=A} T.x W h1 h2 GA.out.ne SBT SBT.x.2
  have SX:=fun (a a':Option Addr) (n c n' c':Nat) (W:World) (h1:IsL FL W (.slice a n c) Y.d.f) (h2:IsL Rts.SL W (.slice a' n' c') Y.g)=>zbl a a' n c n' c' Y Y.x W h1 h2 CR.ne CR.b CR.b.x.2;have RP:=fun W:World=>zcy s W (by omega);have SM:=zid fun (v1 v2:Value) (l:List Fp.Pr) (W:World) (h1:zaY W v1 l) (h2:zaY W v2 l)=>zgU v1 v2 l W h1 h2;unfold zag at IN ST SX;dsimp only at IN ST;unfold zac at CO OP;unfold Dp.crash at CO OP;dsimp only at CO OP;have HCR:=zid CR.e;replace IN:=zid IN;replace CO:=zid CO;replace OP:=zid OP;replace ST:=zid ST;replace SX:=zid SX;replace RP:=zid RP;replace hAf:=zid hAf;clear hT hY BX hgs hgv hgx hL CR SBT hAc GA hTs;obtain ⟨p0,p1,p2,p3⟩:=Mfs.cells4 (M2.out.at_ (t:=w.heap.size) (mcm mcs));obtain ⟨⟨k0,k1,k2,k3,k4⟩,k5,k6,k7,k8,k9,k10⟩:=zab (M2.out.at_ (t:=ts) mcs);go_wp2_with fail;refine (IN.out _ _ _ _ _ _ _ (by rw [hAf.out];exact M2.out.fl mcs) (M2.out.sl mcs)).mono ?_;rintro e w6 ⟨a5,n5,c5,a6,n6,c6,rfl,ks⟩;have H3:=zid (hv_of ((M2.out.call2 mcs mcs ks).alloc #[.slice a5 n5 c5,.int .i64 X.d.c,.bool X.d.a,.int .i64 X.d.l,.bool X.d.x,.int .i64 X.v,.slice a6 n6 c6,.int .i64 X.x,.int .i64 X.s,.int .i64 X.z,.int .u32 X.c] 31) rfl);clear ks M2 IN p0 p1 p2 p3 k0 k1 k2 k3 k4 k5 k6 k7 k8 k9 k10;unfold zag;dsimp only;go_upto_region 9 with (fail);generalize w6.alloc _=w7 at H3 ⊢;generalize w6.heap.size=tx at H3 ⊢;obtain ⟨⟨x0,x1,x2,x3,x4⟩,x5,x6,x7,x8,x9,x10⟩:=zab (H3.out.at_ (t:=tx) mcs);go_wp2_with fail;refine (CO.out _ _ _ _ (H3.out.fl (v:= .slice a5 n5 c5) mcs)).mono ?_;rintro e w8 ⟨a7,n7,c7,rfl,hc7,_,b8⟩;have H4:=zid ((H3.out.keep b8).addf hc7);clear hc7 b8 H3 CO x0 x1 x2 x3 x4 x5 x6 x7 x8 x9 x10;go_wp2_with fail;refine (OP.out _ _ _ _ (H4.out.fl (v:= .slice a7 n7 c7) mcs)).mono ?_;rintro e w9 ⟨a8,n8,c8,a9,n9,c9,rfl,ks⟩;have H5:=zid ((H4.out.st ks).al #[.slice a8 n8 c8,.int .i64 Y.d.c,.bool Y.d.a,.int .i64 Y.d.l,.bool Y.d.x,.int .i64 Y.v,.slice a9 n9 c9,.int .i64 Y.x,.int .i64 Y.s,.int .i64 Y.z,.int .u32 Y.c] 31);clear ks H4 OP;unfold zag;dsimp only;go_upto_region 10 with (fail);generalize w9.alloc _=w10 at H5 ⊢;generalize w9.heap.size=ty at H5 ⊢
  rcases HCR.out with ⟨hE,hyx⟩ | hcr
  · subst hE
    go_wp2_with fail
    refine (AW.out _).mono ?_;rintro e w11 ⟨rfl,b11⟩;have H6:=zid (H5.out.keep b11);clear b11 H5;obtain ⟨⟨y0,y1,y2,y3,y4⟩,y5,y6,y7,y8,y9,y10⟩:=zab (H6.out.at_ (t:=ty) mcs);obtain ⟨⟨k0,k1,k2,k3,k4⟩,k5,k6,k7,k8,k9,k10⟩:=zab (H6.out.at_ (t:=ts) (mcm (mcm mcs)))
    have e1:(Y.x==T.s)=true:=by simp [hyx]
    clear hyx;go_wp2_with fail;go_ret;exact ⟨by first | rfl | simp,H6.out.w⟩
  have hE1:(E==1)=false:=by
   rcases hcr with ⟨h,_⟩ | ⟨h,_⟩
   · simpa using h
   · rw [h];rfl
  have HCR2:=zid hcr;clear HCR hcr;obtain ⟨p0,p1,p2,p3⟩:=Mfs.cells4 (H5.out.at_ (t:=w.heap.size) (mcm (mcm (mcm mcs))));go_wp2_with fail;refine (RP.out _).mono ?_;rintro e w11 ⟨lv,rfl,hlv,b11⟩;have H6:=zid (H5.out.keep b11);have LV:=zid hlv;clear hlv b11 H5 RP p0 p1 p2 p3;obtain ⟨p0,p1,p2,p3⟩:=Mfs.cells4 (H6.out.at_ (t:=w.heap.size) (mcm (mcm (mcm mcs))));obtain ⟨⟨y0,y1,y2,y3,y4⟩,y5,y6,y7,y8,y9,y10⟩:=zab (H6.out.at_ (t:=ty) mcs)
  rcases HCR2.out with ⟨_,hyx,l,hp,hst⟩ | ⟨hE,hyx,hne,hst⟩
  · have e1:(Y.x==x)=true:=by simp [hyx]
    replace LV:=zid (show zaY w11 lv l from by have h:=LV.out;rw [hp] at h;exact h)
    have SX1:=SX.out;rw [hst] at SX1;replace SX:=zid SX1;clear hyx hp hst SX1;go_wp2_with fail;refine (AW.out _).mono ?_;rintro e w12 ⟨rfl,b12⟩;have H7:=zid (H6.out.keep b12);replace LV:=zid (LV.out.below b12 (Nat.le_refl _));clear b12 H6 y0 y1 y2 y3 y4 y5 y6 y7 y8 y9 y10;obtain ⟨⟨y0,y1,y2,y3,y4⟩,y5,y6,y7,y8,y9,y10⟩:=zab (H7.out.at_ (t:=ty) mcs);go_wp2_with fail;refine (SX.out _ _ _ _ _ _ _ (H7.out.fl (v:= .slice a8 n8 c8) mcs) (H7.out.sl (v:= .slice a9 n9 c9) mcs)).mono ?_;rintro e w13 ⟨ra,rn,rc,rfl,hp13,b13⟩;have RV:=zid hp13;have H8:=zid (H7.out.keep b13);replace LV:=zid (LV.out.below b13 (Nat.le_refl _));clear b13 hp13 H7;go_wp2_with fail;refine (SM.out _ _ l _ RV.out LV.out).mono ?_;rintro e w14 ⟨rfl,b14⟩;have H9:=zid (H8.out.keep b14);clear b14;go_wp2_with fail;go_ret;exact ⟨by first | rfl | simp,H9.out.w⟩
  · subst hE
    have e1:(Y.x==x)=false:=by simpa using hne
    have e2:(Y.x==T.x)=true:=by simpa using hyx
    have SX1:=SX.out;rw [hst] at SX1;replace SX:=zid SX1;clear hyx hne hst SX1 HCR2;generalize Lg.stateT _ _=L at SX ST;obtain ⟨⟨k0,k1,k2,k3,k4⟩,k5,k6,k7,k8,k9,k10⟩:=zab (H6.out.at_ (t:=ts) (mcm (mcm mcs)));have hl0:=(Array.getElem?_eq_some_iff.1 (H6.out.at_ (t:=ty) mcs)).1;have hl1:=(Array.getElem?_eq_some_iff.1 (H6.out.at_ (t:=ts) (mcm (mcm mcs)))).1;have I1:=zid (show IsL FL w11 (.slice a3 n3 c3) A.f from by rw [hAf.out];exact H6.out.fl (mcm (mcm (mcm mcs))));have J1:=zid (H6.out.sl (v:= .slice a4 n4 c4) (l:=T.g) (mcm (mcm mcs)));have I2:=zid (H6.out.fl (v:= .slice a8 n8 c8) (l:=Y.d.f) mcs);have J2:=zid (H6.out.sl (v:= .slice a9 n9 c9) (l:=Y.g) mcs);have WH:=zid H6.out.w;clear H6 LV hAf;go_upto_region 17 with (fail);clear p0 p1 p2 p3
    go_region_held3 (fun W=>(∀b o,b<w11.heap.size->W.cell? ⟨b,o,none⟩=w11.cell? ⟨b,o,none⟩)/\Below w11.heap.size w11 W) (first | with_reducible assumption | with_reducible exact KW.dr _ | with_reducible exact KW.keep (by assumption) (Below.refl _ _).drew | with_reducible exact KW.keep (by assumption) (by assumption)) (first | (go_at_call 7;refine (AW.out _).mono ?_;rintro e w5 ⟨rfl,q5⟩;have s5:=KW.keep (by assumption) q5) | (go_at_call 15;have hord:=HPX;refine (ST.out a3 a4 n3 c3 n4 c4 _ (I1.out.keep (KW.bel (by assumption))) (J1.out.keep (KW.bel (by assumption)))).mono ?_;rintro e w5 ⟨pa,pn,pc,rfl,hpr,q5⟩;have HPR:=zid hpr;have s5:=KW.keep (by assumption) q5) | (go_at_call 15;refine (SX.out a8 a9 n8 c8 n9 c9 _ (I2.out.keep (KW.bel (by assumption))) (J2.out.keep (KW.bel (by assumption)))).mono ?_;rintro e w5 ⟨qa,qn,qc,rfl,hpx,q5⟩;have HPX:=zid hpx;have s5:=KW.keep (by assumption) q5) | (go_at_call 14;refine (SM.out _ _ L _ (by first | exact HPX.out | exact HPX.out.below (by assumption) (Nat.le_refl _)) (by first | exact HPR.out | exact HPR.out.below (by assumption) (Nat.le_refl _))).mono ?_;rintro e w5 ⟨rfl,q5⟩;have s5:=KW.keep (by assumption) q5))
    all_goals
     rename_i hh
     have LB:=zid (WH.out.trans ((KW.bel hh).mono WH.out.size));clear hh;go_wp2_with fail;go_ret;exact ⟨by first | rfl | simp,LB.out⟩
end Ins
end Go.Proofs.YtgmppfpllogdcaaGreat

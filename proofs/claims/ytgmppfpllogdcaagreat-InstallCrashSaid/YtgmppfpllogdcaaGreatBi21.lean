/-
  Parts of what the laws of this seat stand on:StoCreate,StoRoll,StoKw.
-/
import Derived.Test.YtgmppfpllogdcaaGreatBi1
import Derived.IntWalk
import Derived.Test.YtgmppfpllogdcaaGreatBi14
import Derived.Test.YtgmppfpllogdcaaGreatBi20
set_option maxRecDepth 100000
set_option maxHeartbeats 6400000
namespace Go.Proofs.YtgmppfpllogdcaaGreat
namespace Sto
open Go.RowKit So Dsk Rts
structure Cs (w:World) (b:Nat) (fv0 fv:Value) (D:Dp.Dk) (W:World):Prop where
 d:W.heap[b]?=some (.cells #[fv,.int .i64 D.c,.bool D.a,.int .i64 D.l,.bool D.x] 27 (0,0))
 r:W.heap[b+1]?=some (.cells #[.slice none 0 0,.int .i64 0,.bool false,.int .i64 0,.bool false,.int .i64 0,.slice none 0 0,.int .i64 0,.int .i64 0,.int .i64 0,.int .u32 0] 31 (0,0))
 f:IsL FL W fv D.f
 s:Sep fv b/\Sep fv (b+1)
 k:∀t,t<b->Sep fv0 t->Sep fv t
 w:Below b w W
section
variable {w W W':World} {b:Nat} {fv0 fv fv':Value} {D D':Dp.Dk}
theorem Cs.lt (h:Cs w b fv0 fv D W):b+1<W.heap.size:=(Array.getElem?_eq_some_iff.1 h.r).1
theorem Cs.keep (h:Cs w b fv0 fv D W) (k:Below W.heap.size W W'):Cs w b fv0 fv D W':=
 ⟨hkeep h.d k,hkeep h.r k,h.f.keep k,h.s,h.k,h.w.trans (k.mono (by have:=h.lt;omega))⟩
theorem Cs.lay (h:Cs w b fv0 fv D W) (k:DkS W fv D' fv' W'):
 ∃Z,((((W'.setCell ⟨b,0,none⟩ fv').setCell ⟨b,1,none⟩ (.int .i64 D'.c)).setCell ⟨b,2,none⟩ (.bool D'.a)).setCell ⟨b,3,none⟩ (.int .i64 D'.l)).setCell ⟨b,4,none⟩ (.bool D'.x)=Z/\Cs w b fv0 fv' D' Z/\(∀j,j≠b->∀o,W'.heap[j]?=some o->Z.heap[j]?=some o)/\(∀v l,IsL Rts.SL W' v l->Sep v b->IsL Rts.SL Z v l):=by
 have h1:=h.lt;have s0:=k.s b (by omega) h.s.1
 exact ⟨_,rfl,⟨za5 (hkeep h.d k.w) _ _ _ _ _,zaw (by omega) (hkeep h.r k.w) _ _ _ _ _,IsL.set5 k.f s0 _ _ _ _ _,⟨s0,k.s _ h1 h.s.2⟩,fun t ht hs=>k.s t (by omega) (h.k t ht hs),zai (h.w.trans (k.w.mono (by omega))) (Nat.le_refl _) _ _ _ _ _⟩,
  fun j hj o e=>zaw hj e _ _ _ _ _,fun v l hv hs=>IsL.set5 hv hs _ _ _ _ _⟩
theorem Cs.fin {a:Option Addr} {n c:Nat} (h:Cs w w.heap.size fv0 (.slice a n c) D W):
 ∃Z,((((((((((W.setCell ⟨w.heap.size+1,0,none⟩ (.slice a n c)).setCell ⟨w.heap.size+1,1,none⟩ (.int .i64 D.c)).setCell ⟨w.heap.size+1,2,none⟩ (.bool D.a)).setCell ⟨w.heap.size+1,3,none⟩ (.int .i64 D.l)).setCell ⟨w.heap.size+1,4,none⟩ (.bool D.x)).setCell ⟨w.heap.size+1,5,none⟩ (.int .i64 0)).setCell ⟨w.heap.size+1,6,none⟩ (.slice none 0 0)).setCell ⟨w.heap.size+1,7,none⟩ (.int .i64 0)).setCell ⟨w.heap.size+1,8,none⟩ (.int .i64 0)).setCell ⟨w.heap.size+1,9,none⟩ (.int .i64 0)).setCell ⟨w.heap.size+1,10,none⟩ (.int .u32 0)=Z/\
  Z.heap[w.heap.size+1]?=some (.cells #[.slice a n c,.int .i64 D.c,.bool D.a,.int .i64 D.l,.bool D.x,.int .i64 0,.slice none 0 0,.int .i64 0,.int .i64 0,.int .i64 0,.int .u32 0] 31 (0,0))/\StS w fv0 (.slice none 0 0) ⟨D,0,[],0,0,0,0⟩ (.slice a n c) (.slice none 0 0) Z:=by
 obtain ⟨Z,h1,h2,_,h4,_,h6⟩:=zdU h.r (.slice a n c) (.int .i64 D.c) (.bool D.a) (.int .i64 D.l) (.bool D.x) (.int .i64 0) (.slice none 0 0) (.int .i64 0) (.int .i64 0) (.int .i64 0) (.int .u32 0);exact ⟨Z,h1,h2,h4 _ _ h.f h.s.2,IsL.nil _ none 0,fun t ht hs _=>⟨h.k t ht hs,Sep.nil _ _ _⟩,h6 _ _ (Nat.le_succ _) h.w⟩
theorem Cs.new {W0:World} (hf:IsL FL w fv D.f) (e:(w.alloc (.cells #[fv,.int .i64 D.c,.bool D.a,.int .i64 D.l,.bool D.x] 27)).alloc (.cells #[.slice none 0 0,.int .i64 0,.bool false,.int .i64 0,.bool false,.int .i64 0,.slice none 0 0,.int .i64 0,.int .i64 0,.int .i64 0,.int .u32 0] 31)=W0):Cs w w.heap.size fv fv D W0:=by
 obtain ⟨g0,g1,gb,gs⟩:=zay w #[fv,.int .i64 D.c,.bool D.a,.int .i64 D.l,.bool D.x] #[.slice none 0 0,.int .i64 0,.bool false,.int .i64 0,.bool false,.int .i64 0,.slice none 0 0,.int .i64 0,.int .i64 0,.int .i64 0,.int .u32 0] 27 31;rw [e] at g0 g1 gb gs;exact ⟨g0,g1,hf.keep gb,⟨IsL.sep_new hf (Nat.le_refl _),IsL.sep_new hf (by omega)⟩,fun _ _ a=>a,gb⟩
end
def CsR (w:World) (b:Nat) (fv0:Value) (D:Dp.Dk) (W:World):Prop:=∃a n c,Cs w b fv0 (.slice a n c) D W
theorem zkl:(segN 0).size<=3000:=by
 show (Np.nameL 115 ((0:Nat):Int)).toArray.size<=3000;rw [List.size_toArray,Np.name_len 115 (by omega)];omega
structure Cx (w:World) (b x:Nat) (fv0 fv fv1 gv:Value) (D D1:Dp.Dk) (W:World):Prop where
 c:Cs w b fv0 fv D W
 o:W.heap[x]?=some (.cells #[fv1,.int .i64 D1.c,.bool D1.a,.int .i64 D1.l,.bool D1.x,.int .i64 1,gv,.int .i64 0,.int .i64 0,.int .i64 0,.int .u32 0] 31 (0,0))
 g:IsL Rts.SL W gv [⟨0,0,0⟩]
 lt:b+1<x
 s:Sep fv x/\Sep gv b/\Sep gv (b+1)/\Sep gv x
 k:∀t,t<b->Sep gv t
section
variable {w W W':World} {b x:Nat} {fv0 fv fv1 fv' gv:Value} {D D1 D':Dp.Dk}
theorem Cx.keep (h:Cx w b x fv0 fv fv1 gv D D1 W) (k:Below W.heap.size W W'):Cx w b x fv0 fv fv1 gv D D1 W':=⟨h.c.keep k,hkeep h.o k,h.g.keep k,h.lt,h.s,h.k⟩
theorem Cx.new (h:Cs w b fv0 fv D W):Cx w b (W.heap.size+1) fv0 fv fv (.slice (some ⟨W.heap.size,0,none⟩) 1 1) D D ((W.alloc (.cells #[.int .i64 0,.int .i64 0,.int .i64 0] 63)).alloc (.cells #[fv,.int .i64 D.c,.bool D.a,.int .i64 D.l,.bool D.x,.int .i64 1,(.slice (some ⟨W.heap.size,0,none⟩) 1 1),.int .i64 0,.int .i64 0,.int .i64 0,.int .u32 0] 31)):=by
 have h1:=h.lt;have a1:=(Below.refl W.heap.size W).alloc (Nat.le_refl _) (.cells #[.int .i64 0,.int .i64 0,.int .i64 0] 63);have hx:=heap_alloc_new (W.alloc (.cells #[.int .i64 0,.int .i64 0,.int .i64 0] 63)) (.cells #[fv,.int .i64 D.c,.bool D.a,.int .i64 D.l,.bool D.x,.int .i64 1,(.slice (some ⟨W.heap.size,0,none⟩) 1 1),.int .i64 0,.int .i64 0,.int .i64 0,.int .u32 0] 31);rw [show (W.alloc (.cells #[.int .i64 0,.int .i64 0,.int .i64 0] 63)).heap.size=W.heap.size+1 from by simp] at hx
 have g1:IsL Rts.SL (W.alloc (.cells #[.int .i64 0,.int .i64 0,.int .i64 0] 63)) (.slice (some ⟨W.heap.size,0,none⟩) 1 1) [⟨0,0,0⟩]:=by
  refine ⟨_,1,rfl,⟨(by decide:1<=maxLen),Nat.le_refl 1⟩,fun y hy=>?_,.inr ⟨W.heap.size,0,rfl,fun j u hj=>?_⟩⟩
  · rw [List.mem_singleton] at hy
    subst hy
    exact ⟨⟨by decide,by decide⟩,⟨by decide,by decide⟩,⟨by decide,by decide⟩⟩
  · have:=zar W W.heap.size [.int .i64 0,.int .i64 0,.int .i64 0] 63 rfl j u hj
    rwa [zak] at this
 have a2:=(Below.refl _ (W.alloc (.cells #[.int .i64 0,.int .i64 0,.int .i64 0] 63))).alloc (Nat.le_refl _) (.cells #[fv,.int .i64 D.c,.bool D.a,.int .i64 D.l,.bool D.x,.int .i64 1,(.slice (some ⟨W.heap.size,0,none⟩) 1 1),.int .i64 0,.int .i64 0,.int .i64 0,.int .u32 0] 31)
 have ne:∀t,t≠W.heap.size->Sep (.slice (some ⟨W.heap.size,0,none⟩) 1 1) t:=fun t ht a k c e _=>by injection e with e _ _;injection e with e;rw [<-e];exact fun e'=>ht e'.symm
 exact ⟨(h.keep a1).keep a2,hx,g1.keep a2,by omega,⟨IsL.sep_new h.f (by omega),ne _ (by omega),ne _ (by omega),ne _ (by omega)⟩,fun t ht=>ne _ (by omega)⟩
theorem Cx.lay (h:Cx w b x fv0 fv fv1 gv D D1 W) (k:DkS W fv D' fv' W'):∃Z,((((W'.setCell ⟨b,0,none⟩ fv').setCell ⟨b,1,none⟩ (.int .i64 D'.c)).setCell ⟨b,2,none⟩ (.bool D'.a)).setCell ⟨b,3,none⟩ (.int .i64 D'.l)).setCell ⟨b,4,none⟩ (.bool D'.x)=Z/\Cx w b x fv0 fv' fv1 gv D' D1 Z:=by
 obtain ⟨Z,h1,h2,h3,h4⟩:=h.c.lay k;have hx:x<W.heap.size:=(Array.getElem?_eq_some_iff.1 h.o).1;have:=h.lt;exact ⟨Z,h1,h2,h3 x (by omega) _ (hkeep h.o k.w),h4 _ _ (h.g.keep k.w) h.s.2.1,h.lt,⟨k.s x hx h.s.1,h.s.2⟩,h.k⟩
theorem Cx.disk (h:Cx w b x fv0 fv fv1 gv D D1 W):∃Z,((((W.setCell ⟨x,0,none⟩ fv).setCell ⟨x,1,none⟩ (.int .i64 D.c)).setCell ⟨x,2,none⟩ (.bool D.a)).setCell ⟨x,3,none⟩ (.int .i64 D.l)).setCell ⟨x,4,none⟩ (.bool D.x)=Z/\Z.heap[x]?=some (.cells #[fv,.int .i64 D.c,.bool D.a,.int .i64 D.l,.bool D.x,.int .i64 1,gv,.int .i64 0,.int .i64 0,.int .i64 0,.int .u32 0] 31 (0,0))/\Z.heap[b+1]?=some (.cells #[.slice none 0 0,.int .i64 0,.bool false,.int .i64 0,.bool false,.int .i64 0,.slice none 0 0,.int .i64 0,.int .i64 0,.int .i64 0,.int .u32 0] 31 (0,0))/\IsL FL Z fv D.f/\IsL Rts.SL Z gv [⟨0,0,0⟩]/\Below b w Z:=by
 have:=h.lt;exact ⟨_,rfl,heap_setCell_same _ _ 4 _ _ _ (heap_setCell_same _ _ 3 _ _ _ (heap_setCell_same _ _ 2 _ _ _ (heap_setCell_same _ _ 1 _ _ _ (heap_setCell_same _ _ 0 _ _ _ h.o)))),zaw (by omega) h.c.r _ _ _ _ _,IsL.set5 h.c.f h.s.1 _ _ _ _ _,IsL.set5 h.g h.s.2.2.2 _ _ _ _ _,zai h.c.w (by omega) _ _ _ _ _⟩
end
def CxR (w:World) (b x:Nat) (fv0 fv1 gv:Value) (D D1:Dp.Dk) (W:World):Prop:=∃a n c,Cx w b x fv0 (.slice a n c) fv1 gv D D1 W
theorem stb1 {D:Dp.Dk} (h:Sm D):Stb ⟨D,1,[⟨0,0,0⟩],0,0,0,0⟩:=
 have h0:(0:Int)<=0/\(0:Int)<=1152921504606846976:=⟨by decide,by decide⟩
 have h1:(0:Int)<=1/\(1:Int)<=1152921504606846976:=⟨by decide,by decide⟩;have h2:(0:Int)<=0/\(0:Int)<4294967296:=⟨by decide,by decide⟩
 ⟨h,h1,(by decide:1<=1000),fun g hg=>by rw [List.mem_singleton] at hg;subst hg;exact ⟨h0,h0,h0⟩,h0,h0,h0,h2⟩
theorem man1 {D:Dp.Dk}:Mfs.MnB (man ⟨D,1,[⟨0,0,0⟩],0,0,0,0⟩):=
 ⟨by show (-9223372036854775808:Int)<=1/\(1:Int)<=_;omega,by show (-9223372036854775808:Int)<=0/\(0:Int)<=_;omega,by show (0:Int)<=0/\(0:Int)<_;omega⟩
theorem zhZ {D D1:Dp.Dk} {E1:Int} {s:ByteArray} (hs:segN 0=s) (h:Dp.create D s=(D1,E1)) (hz:E1≠0):zal D=(⟨D1,0,[],0,0,0,0⟩,E1):=by
 subst hs;unfold zal;simp only [h];rw [if_pos hz]
theorem zgY {D D1:Dp.Dk} {s:ByteArray} (hs:segN 0=s) (h:Dp.create D s=(D1,0)) {W:Dp.Dk×Int} (hW:swap D1 (man ⟨D1,1,[⟨0,0,0⟩],0,0,0,0⟩)=W):zal D=if W.2≠0 then (⟨W.1,0,[],0,0,0,0⟩,W.2) else (⟨W.1,1,[⟨0,0,0⟩],0,0,0,0⟩,0):=by
 subst hs;unfold zal;simp only [h];rw [if_neg (by simp),hW]
theorem zcz (fa:Option Addr) (fn fc:Nat) (D:Dp.Dk) (w:World) (k:Nat) (hv:IsL FL w (.slice fa fn fc) D.f) (hS:Bd D k) (hk:k<=99000):
 Calls Tryz.prog 22 #[zac (.slice fa fn fc) D] w (zdW w (.slice fa fn fc) (.slice none 0 0) (zal D)):=by
 have T0:=zid fun (W0:World)=> @Cs.new w (.slice fa fn fc) D W0 hv;obtain ⟨⟨D1,E1⟩,hR⟩:∃R,Dp.create D (segN 0)=R:=⟨_,rfl⟩;have RC:=zid (show ∀W:World,IsL FL W (.slice fa fn fc) D.f->_ from fun W h=>zck hS (by omega) (segN 0) zkl h);have HB1:=zas hS (segN 0);rw [hR] at RC HB1;have HC:=zid hR;replace HB1:=zid HB1;have SG:=zid fun W:World=>zbq 0 W (by decide);rw [show (⟨(Np.nameL 115 0).toArray⟩:ByteArray)=segN 0 from rfl] at SG;clear hv hS hR;obtain ⟨sg,hsg⟩:∃s,segN 0=s:=⟨_,rfl⟩;have HSG:=zid hsg;rw [hsg] at RC HC SG;dsimp only at HB1;clear hsg;unfold zac at RC ⊢
 go_enter Tryz.func22,Tryz.ntmps22
 go_upto_region 1 with (fail);obtain ⟨w0,hW⟩:∃W0,(w.alloc (.cells #[.slice fa fn fc,.int .i64 D.c,.bool D.a,.int .i64 D.l,.bool D.x] 27)).alloc (.cells #[.slice none 0 0,.int .i64 0,.bool false,.int .i64 0,.bool false,.int .i64 0,.slice none 0 0,.int .i64 0,.int .i64 0,.int .i64 0,.int .u32 0] 31)=W0:=⟨_,rfl⟩;rw [hW];have T1:=T0.out w0 hW;have TD:=zid (T1.keep (W':=w0.drew) (Below.refl _ _).drew);clear T0 hW;obtain ⟨d0,d1,d2,d3,d4⟩:=zaa TD.out.d;obtain ⟨df0,df1,df2,df3,df4⟩:=zad TD.out.d;have TT:=zid T1;clear T1
 go_cut [4] (fun v wc=>v= .int .i64 E1/\CsR w w.heap.size (.slice fa fn fc) D1 wc)
 case first=>
  go_region_with (first | (go_at_call 35;refine (SG.out _).mono ?_;rintro e w4 ⟨rfl,b4⟩;have C4:=zid (TD.out.keep b4);obtain ⟨z0,z1,z2,z3,z4⟩:=zaa C4.out.d;obtain ⟨zf0,zf1,zf2,zf3,zf4⟩:=zad C4.out.d;clear b4) | (go_at_call 53;refine (RC.out _ C4.out.f).mono ?_;rintro e w5 ⟨a5,n5,c5,rfl,k5⟩;obtain ⟨x0,x1,x2,x3,x4⟩:=zaa (hkeep C4.out.d k5.w);obtain ⟨xf0,xf1,xf2,xf3,xf4⟩:=zad (hkeep C4.out.d k5.w);have LY:=zid (C4.out.lay k5);clear k5;unfold zac))
  all_goals
   go_wp2_with fail
   go_meet
   case rel=>
    obtain ⟨Z,hZ,Z1,_⟩:=LY.out;rw [hZ];exact ⟨rfl,_,_,_,Z1⟩
 case rest=>
  clear d0 d1 d2 d3 d4 df0 df1 df2 df3 df4 TD TT SG;obtain ⟨rfl,a1,n1,c1,T2⟩:=hcut;have T2H:=zid T2;have TF:=zid T2.fin;obtain ⟨d0,d1,d2,d3,d4⟩:=zaa T2.d;have kr:=zaf T2.r;obtain ⟨⟨r0,r1,r2,r3,r4⟩,r5,r6,r7,r8,r9,r10⟩:=zab T2.r
  by_cases hz:E1=0
  case neg=>
   have HR:=zid (show zal D=(⟨D1,0,[],0,0,0,0⟩,E1) from zhZ HSG.out HC.out hz);have hz':=ne_b hz;clear T2 hz;go_wp2_with fail;obtain ⟨Z3,hZ3,Z4,Z5⟩:=TF.out;rw [hZ3];obtain ⟨⟨s0,s1,s2,s3,s4⟩,s5,s6,s7,s8,s9,s10⟩:=zab Z4;refine bodyPost_ret (v:= .tuple #[zag (.slice a1 n1 c1) (.slice none 0 0) ⟨D1,0,[],0,0,0,0⟩,.int .i64 E1]) (by unfold zag;simp [results,Tryz.results22,go_sem,s0,s1,s2,s3,s4,s5,s6,s7,s8,s9,s10]) rfl ?_;rw [HR.out];exact ⟨_,_,_,_,_,_,rfl,Z5⟩
  subst hz;clear T2 TF;go_upto_region 5 with (fail);have X1:=Cx.new T2H.out;have RM:=zid fun (W:World) (h:IsL Rts.SL W (.slice (some ⟨wc.heap.size,0,none⟩) 1 1) [⟨0,0,0⟩])=>zd1 (.slice a1 n1 c1) (.slice (some ⟨wc.heap.size,0,none⟩) 1 1) ⟨D1,1,[⟨0,0,0⟩],0,0,0,0⟩ W h (stb1 (zaM HB1.out (by omega)));obtain ⟨⟨D2,E2⟩,hSW⟩:∃R,swap D1 (man ⟨D1,1,[⟨0,0,0⟩],0,0,0,0⟩)=R:=⟨_,rfl⟩;have RW:=zid fun (W:World) (am:Option Addr) (nm cm:Nat) (hv:IsL FL W (.slice a1 n1 c1) D1.f) (hm:IsL Mfs.IL W (.slice am nm cm) (man ⟨D1,1,[⟨0,0,0⟩],0,0,0,0⟩).l)=>zdm a1 n1 c1 D1 am nm cm (man ⟨D1,1,[⟨0,0,0⟩],0,0,0,0⟩) W (k+1) hv hm HB1.out (by omega) man1;rw [hSW] at RW;have HCT:=zid (zgY HSG.out HC.out hSW);obtain ⟨m1,hm1⟩:∃m,man ⟨D1,1,[⟨0,0,0⟩],0,0,0,0⟩=m:=⟨_,rfl⟩;rw [hm1] at RM RW;unfold zag at RM;unfold zac at RW;dsimp only at RM;clear hSW hm1;generalize hN:wc.heap.size=N at X1 RM ⊢;generalize (wc.alloc (.cells #[.int .i64 0,.int .i64 0,.int .i64 0] 63)).alloc _=w2 at X1 ⊢;clear hN T2H d0 d1 d2 d3 d4 kr r0 r1 r2 r3 r4 r5 r6 r7 r8 r9 r10;have XH:=zid X1;have XD:=zid (X1.keep (W':=w2.drew) (Below.refl _ _).drew);clear X1;obtain ⟨d0,d1,d2,d3,d4⟩:=zaa XD.out.c.d;obtain ⟨df0,df1,df2,df3,df4⟩:=zad XD.out.c.d;obtain ⟨⟨x0,x1,x2,x3,x4⟩,x5,x6,x7,x8,x9,x10⟩:=zab XD.out.o
  go_cut [4] (fun v wc=>v= .int .i64 E2/\CxR w w.heap.size (N+1) (.slice fa fn fc) (.slice a1 n1 c1) (.slice (some ⟨N,0,none⟩) 1 1) D2 D1 wc)
  case first=>
   go_region_with (first | (go_at_call 33;refine (RM.out _ XD.out.g).mono ?_;rintro e w6 ⟨am,nm,cm,rfl,hl,b6⟩;have HL:=zid hl;have X6:=zid (XD.out.keep b6);obtain ⟨z0,z1,z2,z3,z4⟩:=zaa X6.out.c.d;obtain ⟨zf0,zf1,zf2,zf3,zf4⟩:=zad X6.out.c.d;clear b6 hl) | (go_at_call 54;refine (RW.out _ am nm cm X6.out.c.f HL.out).mono ?_;rintro e w7 ⟨a7,n7,c7,rfl,k7⟩;obtain ⟨y0,y1,y2,y3,y4⟩:=zaa (hkeep X6.out.c.d k7.w);obtain ⟨yf0,yf1,yf2,yf3,yf4⟩:=zad (hkeep X6.out.c.d k7.w);have LY:=zid (X6.out.lay k7);clear k7;unfold zac))
   all_goals
    go_wp2_with fail
    go_meet
    case rel=>
     obtain ⟨Z,hZ,Z1⟩:=LY.out;rw [hZ];exact ⟨rfl,_,_,_,Z1⟩
  case rest=>
   clear d0 d1 d2 d3 d4 df0 df1 df2 df3 df4 x0 x1 x2 x3 x4 x5 x6 x7 x8 x9 x10 XH XD RM RW;obtain ⟨rfl,a3,n3,c3,T3⟩:=hcut;have TF:=zid T3.c.fin;have TX:=zid T3.disk;have SP:=zid (show ∀t,t<w.heap.size->Sep (.slice fa fn fc) t->Sep (.slice none 0 0) t->Sep (.slice a3 n3 c3) t/\Sep (.slice (some ⟨N,0,none⟩) 1 1) t from fun t ht h _=>⟨T3.c.k t ht h,T3.k t ht⟩);have SQ:=zid (show Sep (.slice a3 n3 c3) (w.heap.size+1)/\Sep (.slice (some ⟨N,0,none⟩) 1 1) (w.heap.size+1) from ⟨T3.c.s.2,T3.s.2.2.1⟩);obtain ⟨d0,d1,d2,d3,d4⟩:=zaa T3.c.d;have kr:=zaf T3.c.r;obtain ⟨⟨r0,r1,r2,r3,r4⟩,r5,r6,r7,r8,r9,r10⟩:=zab T3.c.r;obtain ⟨⟨x0,x1,x2,x3,x4⟩,x5,x6,x7,x8,x9,x10⟩:=zab T3.o;have kx:=zaf T3.o;clear T3
   by_cases hz:E2=0
   case neg=>
    have HR:=zid (show zal D=(⟨D2,0,[],0,0,0,0⟩,E2) from by rw [HCT.out];exact if_pos hz);have hz':=ne_b hz;clear hz;go_wp2_with fail;obtain ⟨Z3,hZ3,Z4,Z5⟩:=TF.out;rw [hZ3];obtain ⟨⟨s0,s1,s2,s3,s4⟩,s5,s6,s7,s8,s9,s10⟩:=zab Z4;refine bodyPost_ret (v:= .tuple #[zag (.slice a3 n3 c3) (.slice none 0 0) ⟨D2,0,[],0,0,0,0⟩,.int .i64 E2]) (by unfold zag;simp [results,Tryz.results22,go_sem,s0,s1,s2,s3,s4,s5,s6,s7,s8,s9,s10]) rfl ?_;rw [HR.out];exact ⟨_,_,_,_,_,_,rfl,Z5⟩
   subst hz;have HR:=zid (show zal D=(⟨D2,1,[⟨0,0,0⟩],0,0,0,0⟩,0) from by rw [HCT.out];exact if_neg (by simp));clear TF;go_upto_region 9 with (fail);obtain ⟨Z,hZ,Z1,Z2,Z3,Z4,Z5⟩:=TX.out;rw [hZ];clear hZ d0 d1 d2 d3 d4 kr r0 r1 r2 r3 r4 r5 r6 r7 r8 r9 r10 x0 x1 x2 x3 x4 x5 x6 x7 x8 x9 x10 kx;have FL3:=zid Z3;have FL4:=zid Z4;have FL5:=zid Z5;have kr:=zaf Z2;obtain ⟨⟨r0,r1,r2,r3,r4⟩,r5,r6,r7,r8,r9,r10⟩:=zab Z2;obtain ⟨⟨x0,x1,x2,x3,x4⟩,x5,x6,x7,x8,x9,x10⟩:=zab Z1;have SE:=zid (zdU Z2 (.slice a3 n3 c3) (.int .i64 D2.c) (.bool D2.a) (.int .i64 D2.l) (.bool D2.x) (.int .i64 1) (.slice (some ⟨N,0,none⟩) 1 1) (.int .i64 0) (.int .i64 0) (.int .i64 0) (.int .u32 0));clear Z1 Z2 Z3 Z4 Z5;go_wp2_with fail;obtain ⟨Y,hY,Y1,_,Y3,Y4,Y5⟩:=SE.out;rw [hY];obtain ⟨⟨s0,s1,s2,s3,s4⟩,s5,s6,s7,s8,s9,s10⟩:=zab Y1;refine bodyPost_ret (v:= .tuple #[zag (.slice a3 n3 c3) (.slice (some ⟨N,0,none⟩) 1 1) ⟨D2,1,[⟨0,0,0⟩],0,0,0,0⟩,.int .i64 0]) (by unfold zag;simp [results,Tryz.results22,go_sem,s0,s1,s2,s3,s4,s5,s6,s7,s8,s9,s10]) rfl ?_;rw [HR.out];exact ⟨_,_,_,_,_,_,rfl,Y3 _ _ FL3.out SQ.out.1,Y4 _ _ FL4.out SQ.out.2,SP.out,Y5 _ _ (Nat.le_succ _) FL5.out⟩
section
variable {w W W':World} {b:Nat} {fv0 gv0 fv gv fv' gv':Value} {S T:St}
theorem Ts.store (h:Ts w b fv0 gv0 fv gv S W) (k:StS W fv gv T fv' gv' W'):
 ∃Z,((((((((((W'.setCell ⟨b,0,none⟩ fv').setCell ⟨b,1,none⟩ (.int .i64 T.d.c)).setCell ⟨b,2,none⟩ (.bool T.d.a)).setCell ⟨b,3,none⟩ (.int .i64 T.d.l)).setCell ⟨b,4,none⟩ (.bool T.d.x)).setCell ⟨b,5,none⟩ (.int .i64 T.v)).setCell ⟨b,6,none⟩ gv').setCell ⟨b,7,none⟩ (.int .i64 T.x)).setCell ⟨b,8,none⟩ (.int .i64 T.s)).setCell ⟨b,9,none⟩ (.int .i64 T.z)).setCell ⟨b,10,none⟩ (.int .u32 T.c)=Z/\Ts w b fv0 gv0 fv' gv' T Z:=by
 have h1:=h.lt;have s0:=k.s b (by omega) h.s.1 h.s.2.2.1;have s1:=k.s (b+1) h1 h.s.2.1 h.s.2.2.2;obtain ⟨Z,e1,e2,e3,e4,e5,e6⟩:=zdU (hkeep h.d k.w) fv' (.int .i64 T.d.c) (.bool T.d.a) (.int .i64 T.d.l) (.bool T.d.x) (.int .i64 T.v) gv' (.int .i64 T.x) (.int .i64 T.s) (.int .i64 T.z) (.int .u32 T.c);exact ⟨Z,e1,e2,e3 _ (by omega) _ (hkeep h.r k.w),e4 _ _ k.f s0.1,e5 _ _ k.g s0.2,⟨s0.1,s1.1,s0.2,s1.2⟩,fun t ht a c=>k.s t (by omega) (h.k t ht a c).1 (h.k t ht a c).2,e6 _ _ (Nat.le_refl _) (h.w.trans (k.w.mono (by omega)))⟩
theorem Ts.dsk {D':Dp.Dk} (h:Ts w b fv0 gv0 fv gv S W) (k:DkS W fv D' fv' W'):
 ∃Z,((((W'.setCell ⟨b,0,none⟩ fv').setCell ⟨b,1,none⟩ (.int .i64 D'.c)).setCell ⟨b,2,none⟩ (.bool D'.a)).setCell ⟨b,3,none⟩ (.int .i64 D'.l)).setCell ⟨b,4,none⟩ (.bool D'.x)=Z/\Ts w b fv0 gv0 fv' gv {S with d:=D'} Z:=by
 have h1:=h.lt;obtain ⟨Z,e1,e2,_,_⟩:=(h.keep k.w).disk k.f ⟨k.s b (by omega) h.s.1,k.s (b+1) h1 h.s.2.1⟩ (fun t ht a c=>k.s t (by omega) (h.k t ht a c).1);exact ⟨Z,e1,e2⟩
end
def TsR (w:World) (fv0 gv0:Value) (S:St) (W:World):Prop:=∃a n c a' n' c',Ts w w.heap.size fv0 gv0 (.slice a n c) (.slice a' n' c') S W
theorem zbU {W:World} {blk base:Nat} (h:W.heap[blk]?=some (.cells #[] 63 (0,0))) (hb:base<=blk):W.ownsRow base 63 3 (.slice (some ⟨blk,0,none⟩) 0 0) 0 []:=
 ⟨rfl,.inr ⟨blk,0,#[],rfl,hb,h,Nat.le_refl _,Nat.zero_le _,rfl,rfl⟩⟩
theorem seg_size {x:Int} (h:0<=x/\x<=1099511627776):(segN x).size<=3000:=by
 obtain ⟨n,rfl⟩:∃n:Nat,x=(n:Int):=⟨x.toNat,by omega⟩;show (Np.nameL 115 ((n:Nat):Int)).toArray.size<=3000;rw [List.size_toArray,Np.name_len 115 (by omega)];omega
theorem zc9 (S:St) {k:Nat} (h:Bd S.d k) {T:St} {E0:Int} (e:zat S=(T,E0)):Bd T.d (k+1)/\T.g=S.g/\T.x=S.x/\T.v=S.v/\T.z=S.z/\T.c=S.c/\(T.s=S.x\/T.s=S.s):=by
 unfold zat at e
 injection e with e1 e2
 subst e1
 exact ⟨zbs h _,rfl,rfl,rfl,rfl,rfl,by dsimp only;split<;>simp⟩
theorem zel {S:St} (h:64<=S.g.length):roll S=(S,9):=by unfold roll;rw [if_pos h]
theorem zej {S T:St} {E0:Int} (h:¬64<=S.g.length) (e:zat S=(T,E0)) (hz:E0≠0):roll S=(T,E0):=by unfold roll;rw [if_neg h,e,if_pos hz]
theorem zdb {S T:St} {C1:Dp.Dk} {E1:Int} (h:¬64<=S.g.length) (e:zat S=(T,0)) (hc:Dp.create T.d (segN T.x)=(C1,E1)) (hz:E1≠0):roll S=({T with d:=C1},E1):=by
 unfold roll;rw [if_neg h,e,if_neg (by simp)];dsimp only;rw [hc,if_pos hz]
section
variable {S T:St} {C1 W1 X1:Dp.Dk} {E2 E3:Int}
theorem zek (h:¬64<=S.g.length) (e:zat S=(T,0)) (hc:Dp.create T.d (segN T.x)=(C1,0)) (hw:swap C1 (man (more T C1))=(W1,9)) (hd:Dp.delete W1 (segN T.x)=(X1,E3)):roll S=({T with d:=X1},if E3=0 then 9 else E3):=by
 unfold roll;rw [if_neg h,e,if_neg (by simp)];dsimp only;rw [hc,if_neg (by simp)];dsimp only;rw [hw,if_pos rfl];dsimp only;rw [hd]
theorem zfv (h:¬64<=S.g.length) (e:zat S=(T,0)) (hc:Dp.create T.d (segN T.x)=(C1,0)) (hw:swap C1 (man (more T C1))=(W1,E2)) (h9:E2≠9) (hz:E2≠0):roll S=({T with d:=W1},E2):=by
 unfold roll;rw [if_neg h,e,if_neg (by simp)];dsimp only;rw [hc,if_neg (by simp)];dsimp only;rw [hw,if_neg h9,if_pos hz]
theorem zhD (h:¬64<=S.g.length) (e:zat S=(T,0)) (hc:Dp.create T.d (segN T.x)=(C1,0)) (hw:swap C1 (man (more T C1))=(W1,0)):roll S=(more T W1,0):=by
 unfold roll;rw [if_neg h,e,if_neg (by simp)];dsimp only;rw [hc,if_neg (by simp)];dsimp only;rw [hw,if_neg (by simp),if_neg (by simp)]
end
theorem ziU {D:Dp.Dk} {k:Nat} (h:Bd D k) {s:ByteArray} (hs:s.size<=3000):Bd (swapS D s).1 (k+4):=by
 have h1:=zas h nn;have h2:=zbb h1 nn hs;have h3:=zbs h2 nn;have h4:=zeI h3 nn (m:=nm) (by decide);have h5:=zam h2 nn;unfold swapS
 split
 · exact h1.mono (by omega)
 · split
   · exact h5.mono (by omega)
   · split
     · exact h2.mono (by omega)
     · split
       · exact h3.mono (by omega)
       · exact h4
theorem ziw (m:Qm.Mn):(⟨(Qm.putM m).1.toArray⟩:ByteArray).size<=3000:=by
 by_cases h:Qm.Ok m
 · rw [Qm.putM_yes h];exact ziH h
 · rw [Qm.putM_no h];decide
theorem zb9 {D:Dp.Dk} {k:Nat} (h:Bd D k) (m:Qm.Mn):Bd (swap D m).1 (k+5):=by
 have hs:=ziw m;unfold swap
 split
 · exact h.mono (by omega)
 · split
   · split
     · exact (zam h nn).mono (by omega)
     · exact ziU (zam h nn) hs
   · exact (ziU h hs).mono (by omega)
theorem man_more {T:St} {D:Dp.Dk} (hT:0<=T.v/\T.v<=1152921504606846976) (hz:0<=T.z/\T.z<=1152921504606846976) (hc:0<=T.c/\T.c<4294967296):Mfs.MnB (man (more T D)):=
 ⟨by show-9223372036854775808<=T.v+1/\T.v+1<=9223372036854775807;omega,by show-9223372036854775808<=T.z/\T.z<=9223372036854775807;omega,hc⟩
structure Tx (w:World) (b x:Nat) (fv0 gv0 fv gv fx gx:Value) (S:St) (ver:Int) (l:List Rt.Sg) (W:World):Prop where
 t:Ts w b fv0 gv0 fv gv S W
 o:W.heap[x]?=some (.cells #[fx,.int .i64 S.d.c,.bool S.d.a,.int .i64 S.d.l,.bool S.d.x,.int .i64 ver,gx,.int .i64 S.x,.int .i64 S.s,.int .i64 S.z,.int .u32 S.c] 31 (0,0))
 g:IsL Rts.SL W gx l
 lt:b+1<x
 s:Sep fv x/\Sep gv x/\Sep gx b/\Sep gx (b+1)/\Sep gx x
 k:∀t,t<b->Sep fv0 t->Sep gv0 t->Sep gx t
section
variable {w W W':World} {b x:Nat} {fv0 gv0 fv gv fx gx gx':Value} {S:St} {ver:Int} {l l':List Rt.Sg}
theorem Tx.keep (h:Tx w b x fv0 gv0 fv gv fx gx S ver l W) (k:Below W.heap.size W W'):Tx w b x fv0 gv0 fv gv fx gx S ver l W':=⟨h.t.keep k,hkeep h.o k,h.g.keep k,h.lt,h.s,h.k⟩
theorem Tx.new (h:Ts w b fv0 gv0 fv gv S W):Tx w b W.heap.size fv0 gv0 fv gv fv gv S S.v S.g (W.alloc (.cells #[fv,.int .i64 S.d.c,.bool S.d.a,.int .i64 S.d.l,.bool S.d.x,.int .i64 S.v,gv,.int .i64 S.x,.int .i64 S.s,.int .i64 S.z,.int .u32 S.c] 31)):=by
 have al:=(Below.refl W.heap.size W).alloc (Nat.le_refl _) (.cells #[fv,.int .i64 S.d.c,.bool S.d.a,.int .i64 S.d.l,.bool S.d.x,.int .i64 S.v,gv,.int .i64 S.x,.int .i64 S.s,.int .i64 S.z,.int .u32 S.c] 31);exact ⟨h.keep al,heap_alloc_new W _,h.g.keep al,h.lt,⟨IsL.sep_new h.f (Nat.le_refl _),IsL.sep_new h.g (Nat.le_refl _),h.s.2.2.1,h.s.2.2.2,IsL.sep_new h.g (Nat.le_refl _)⟩,fun t ht a c=>(h.k t ht a c).2⟩
theorem Ts.cell (h:Ts w b fv0 gv0 fv gv S W) (hx:b+1<x) (s1:Sep fv x) (s2:Sep gv x) (o:Nat) (v:Value):Ts w b fv0 gv0 fv gv S (W.setCell ⟨x,o,none⟩ v):=
 ⟨(Below.heap_setCell _ _ _ _ (fun e=>by have e:b=x:=e;omega)).trans h.d,(Below.heap_setCell _ _ _ _ (fun e=>by have e:b+1=x:=e;omega)).trans h.r,IsL.setC h.f s1 _ _,IsL.setC h.g s2 _ _,h.s,h.k,h.w.setCell (p:=⟨x,o,none⟩) (by show b<=x;omega) _⟩
theorem Tx.vers (h:Tx w b x fv0 gv0 fv gv fx gx S ver l W) (ver':Int):Tx w b x fv0 gv0 fv gv fx gx S ver' l (W.setCell ⟨x,5,none⟩ (.int .i64 ver')):=
 ⟨h.t.cell h.lt h.s.1 h.s.2.1 _ _,heap_setCell_same _ _ 5 _ _ _ h.o,IsL.setC h.g h.s.2.2.2.2 _ _,h.lt,h.s,h.k⟩
theorem Tx.segs (h:Tx w b x fv0 gv0 fv gv fx gx S ver l W) (k:Below W.heap.size W W') (hg:IsL Rts.SL W' gx' l') (hs:∀t,t<W.heap.size->Sep gx' t):Tx w b x fv0 gv0 fv gv fx gx' S ver l' (W'.setCell ⟨x,6,none⟩ gx'):=by
 have h1:=h.t.lt;have hx:x<W.heap.size:=(Array.getElem?_eq_some_iff.1 h.o).1;exact ⟨(h.t.keep k).cell h.lt h.s.1 h.s.2.1 _ _,heap_setCell_same _ _ 6 _ _ _ (hkeep h.o k),IsL.setC hg (hs x hx) _ _,h.lt,⟨h.s.1,h.s.2.1,hs _ (by omega),hs _ h1,hs x hx⟩,fun t ht _ _=>hs t (by omega)⟩
end
def TxR (w:World) (b x:Nat) (fv0 gv0 fv gv fx:Value) (S:St) (ver:Int) (l:List Rt.Sg) (W:World):Prop:=∃a n c,Tx w b x fv0 gv0 fv gv fx (.slice a n c) S ver l W
section
variable {w0 W W':World}
theorem KW.of (h:Below w0.heap.size w0 W):(∀b o,b<w0.heap.size->W.cell? ⟨b,o,none⟩=w0.cell? ⟨b,o,none⟩)/\Below w0.heap.size w0 W:=⟨fun b o hb=>h.cell (p:=⟨b,o,none⟩) hb,h⟩
theorem KW.start (w0:World):(∀b o,b<w0.heap.size->w0.cell? ⟨b,o,none⟩=w0.cell? ⟨b,o,none⟩)/\Below w0.heap.size w0 w0:=KW.of (Below.refl _ _)
theorem KW.dr (w0:World):(∀b o,b<w0.heap.size->w0.drew.cell? ⟨b,o,none⟩=w0.cell? ⟨b,o,none⟩)/\Below w0.heap.size w0 w0.drew:=KW.of (Below.refl _ _).drew
theorem KW.keep (h:(∀b o,b<w0.heap.size->W.cell? ⟨b,o,none⟩=w0.cell? ⟨b,o,none⟩)/\Below w0.heap.size w0 W) (k:Below W.heap.size W W'):(∀b o,b<w0.heap.size->W'.cell? ⟨b,o,none⟩=w0.cell? ⟨b,o,none⟩)/\Below w0.heap.size w0 W':=KW.of (h.2.trans (k.mono h.2.size))
theorem KW.al (h:(∀b o,b<w0.heap.size->W.cell? ⟨b,o,none⟩=w0.cell? ⟨b,o,none⟩)/\Below w0.heap.size w0 W) {o:Obj}:(∀b i,b<w0.heap.size->(W.alloc o).cell? ⟨b,i,none⟩=w0.cell? ⟨b,i,none⟩)/\Below w0.heap.size w0 (W.alloc o):=KW.of (h.2.alloc h.2.size o)
theorem KW.ad (h:(∀b o,b<w0.heap.size->W.cell? ⟨b,o,none⟩=w0.cell? ⟨b,o,none⟩)/\Below w0.heap.size w0 W) {o:Obj}:(∀b i,b<w0.heap.size->(W.alloc o).drew.cell? ⟨b,i,none⟩=w0.cell? ⟨b,i,none⟩)/\Below w0.heap.size w0 (W.alloc o).drew:=KW.of (h.2.alloc h.2.size o).drew
theorem KW.st5 (h:(∀b o,b<w0.heap.size->W.cell? ⟨b,o,none⟩=w0.cell? ⟨b,o,none⟩)/\Below w0.heap.size w0 W) {t:Nat} {x0 x1 x2 x3 x4:Value} (ht:w0.heap.size<=t):(∀b i,b<w0.heap.size->(((((W.setCell ⟨t,0,none⟩ x0).setCell ⟨t,1,none⟩ x1).setCell ⟨t,2,none⟩ x2).setCell ⟨t,3,none⟩ x3).setCell ⟨t,4,none⟩ x4).cell? ⟨b,i,none⟩=w0.cell? ⟨b,i,none⟩)/\Below w0.heap.size w0 (((((W.setCell ⟨t,0,none⟩ x0).setCell ⟨t,1,none⟩ x1).setCell ⟨t,2,none⟩ x2).setCell ⟨t,3,none⟩ x3).setCell ⟨t,4,none⟩ x4):=
 KW.of (zai h.2 ht _ _ _ _ _)
theorem KW.at (h:(∀b o,b<w0.heap.size->W.cell? ⟨b,o,none⟩=w0.cell? ⟨b,o,none⟩)/\Below w0.heap.size w0 W) (_:Below W.heap.size W W'):Below w0.heap.size w0 W:=h.2
theorem KW.bel (h:(∀b o,b<w0.heap.size->W.cell? ⟨b,o,none⟩=w0.cell? ⟨b,o,none⟩)/\Below w0.heap.size w0 W):Below w0.heap.size w0 W:=h.2
end
end Sto
end Go.Proofs.YtgmppfpllogdcaaGreat

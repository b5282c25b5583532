/-
  Parts of what the laws of this seat stand on:StoSwap,RoPlain.
-/
import Derived.Test.YtgmppfpllogdcaaGreatBi1
import Derived.Deep.DeepCutAuto
import Derived.Test.YtgmppfpllogdcaaGreatBi14
import Derived.Test.YtgmppfpllogdcaaGreatBi16
import Derived.Test.YtgmppfpllogdcaaGreatBi17
import Derived.Test.YtgmppfpllogdcaaGreatBi18
import Derived.Test.YtgmppfpllogdcaaGreatBi7
set_option maxRecDepth 100000
set_option maxHeartbeats 6400000
namespace Go.Proofs.YtgmppfpllogdcaaGreat
namespace Sto
open Go.RowKit So Dsk Rts
def zaL (w:World) (fv:Value) (R:Dp.Dk×Int) (e:Ending) (w':World):Prop:=∃a n c,e= .returned (.tuple #[zac (.slice a n c) R.1,.int .i64 R.2])/\DkS w fv R.1 (.slice a n c) w'
theorem zbO {D:Dp.Dk} {k:Nat} (h:Bd D k) {a:Dp.Act} (hi:a.i<=9223372036854775807) (ht:a.t.size<=3000):Bd (Dp.act D a).1 (k+1):=by
 obtain ⟨h1,h2⟩:=Dp.act_small D a;exact ⟨act_dkb h.b h.r.2.2.2 hi,h.r.act a,by have:=h.n;omega,by have:=h.u;omega⟩
theorem zaM {D:Dp.Dk} {k:Nat} (h:Bd D k) (hk:k<=300000):Sm D:=⟨h.b,h.r,by have:=h.n;omega,by have:=h.u;omega⟩
section
variable {D:Dp.Dk} {k:Nat}
theorem zas (h:Bd D k) (n:ByteArray):Bd (Dp.create D n).1 (k+1):=by rw [<-act0];exact zbO h (a:=⟨0,0,n,⟨#[]⟩,[]⟩) (by show (0:Int)<=_;omega) (by show 0<=3000;omega)
theorem zbb (h:Bd D k) (n:ByteArray) {s:ByteArray} (hs:s.size<=3000):Bd (Dp.append D n s).1 (k+1):=by rw [<-act1];exact zbO h (a:=⟨1,0,n,s,[]⟩) (by show (0:Int)<=_;omega) hs
theorem zbs (h:Bd D k) (n:ByteArray):Bd (Dp.sync D n).1 (k+1):=by rw [<-act2];exact zbO h (a:=⟨2,0,n,⟨#[]⟩,[]⟩) (by show (0:Int)<=_;omega) (by show 0<=3000;omega)
theorem zeI (h:Bd D k) (n:ByteArray) {m:ByteArray} (hm:m.size<=3000):Bd (Dp.rename D n m).1 (k+1):=by rw [<-act4];exact zbO h (a:=⟨4,0,n,m,[]⟩) (by show (0:Int)<=_;omega) hm
theorem zam (h:Bd D k) (n:ByteArray):Bd (Dp.delete D n).1 (k+1):=by rw [<-act5];exact zbO h (a:=⟨5,0,n,⟨#[]⟩,[]⟩) (by show (0:Int)<=_;omega) (by show 0<=3000;omega)
variable {fv:Value} {w:World}
theorem zck (h:Bd D k) (hk:k<=200000) (n:ByteArray) (hn:n.size<=3000) (hv:IsL FL w fv D.f):Calls Tryz.prog 53 #[zac fv D,.string n] w (zaL w fv (Dp.create D n)):=
 (zhM fv D n w hv (zaM h (by omega)) (by omega)).mono fun _ _ r=>rk_s r hv (zaM (zas h n) (by omega))
theorem zdq (h:Bd D k) (hk:k<=200000) (n s:ByteArray) (hs:s.size<=3000) (hv:IsL FL w fv D.f):Calls Tryz.prog 44 #[zac fv D,.string n,.string s] w (zaL w fv (Dp.append D n s)):=
 (zhN fv D n s w hv (zaM h (by omega)) (by omega)).mono fun _ _ r=>rk_s r hv (zaM (zbb h n hs) (by omega))
theorem zed (h:Bd D k) (hk:k<=200000) (n:ByteArray) (hv:IsL FL w fv D.f):Calls Tryz.prog 46 #[zac fv D,.string n] w (zaL w fv (Dp.sync D n)):=
 (zkn fv D n w hv (zaM h (by omega))).mono fun _ _ r=>rk_s r hv (zaM (zbs h n) (by omega))
theorem zkr (h:Bd D k) (hk:k<=200000) (n m:ByteArray) (hm:m.size<=3000) (hv:IsL FL w fv D.f):Calls Tryz.prog 88 #[zac fv D,.string n,.string m] w (zaL w fv (Dp.rename D n m)):=
 (zhx fv D n m w hv (zaM h (by omega)) (by omega)).mono fun _ _ r=>rk_s r hv (zaM (zeI h n hm) (by omega))
theorem zbe (h:Bd D k) (hk:k<=200000) (n:ByteArray) (hv:IsL FL w fv D.f):Calls Tryz.prog 34 #[zac fv D,.string n] w (zaL w fv (Dp.delete D n)):=
 (zhL fv D n w hv (zaM h (by omega))).mono fun _ _ r=>rk_s r hv (zaM (zam h n) (by omega))
end
structure Bs (w:World) (b:Nat) (fv0 fv:Value) (D:Dp.Dk) (M:Array Value) (W:World):Prop where
 d:W.heap[b]?=some (.cells #[fv,.int .i64 D.c,.bool D.a,.int .i64 D.l,.bool D.x] 27 (0,0))
 m:W.heap[b+1]?=some (.cells M 76 (0,0))
 r:W.heap[b+1+1]?=some (.cells #[.slice none 0 0,.int .i64 0,.bool false,.int .i64 0,.bool false] 27 (0,0))
 f:IsL FL W fv D.f
 s:Sep fv b/\Sep fv (b+1)/\Sep fv (b+1+1)
 k:∀t,t<b->Sep fv0 t->Sep fv t
 w:Below b w W
theorem Bs.keep {w W W':World} {b:Nat} {fv0 fv:Value} {D:Dp.Dk} {M:Array Value} (h:Bs w b fv0 fv D M W) (k:Below W.heap.size W W'):Bs w b fv0 fv D M W':=
 ⟨hkeep h.d k,hkeep h.m k,hkeep h.r k,h.f.keep k,h.s,h.k,h.w.trans (k.mono (by have:=(Array.getElem?_eq_some_iff.1 h.d).1;omega))⟩
theorem Bs.lay {w W W':World} {b:Nat} {fv0 fv fv':Value} {D D':Dp.Dk} {M:Array Value} (h:Bs w b fv0 fv D M W) (k:DkS W fv D' fv' W'):
 ∃Z,((((W'.setCell ⟨b,0,none⟩ fv').setCell ⟨b,1,none⟩ (.int .i64 D'.c)).setCell ⟨b,2,none⟩ (.bool D'.a)).setCell ⟨b,3,none⟩ (.int .i64 D'.l)).setCell ⟨b,4,none⟩ (.bool D'.x)=Z/\Bs w b fv0 fv' D' M Z:=by
 have h0:b<W.heap.size:=(Array.getElem?_eq_some_iff.1 h.d).1;have h1:b+1<W.heap.size:=(Array.getElem?_eq_some_iff.1 h.m).1;have h2:b+1+1<W.heap.size:=(Array.getElem?_eq_some_iff.1 h.r).1;have s0:=k.s b h0 h.s.1
 have ho:∀j,j≠b->∀o,W'.heap[j]?=some o->(set5 W' b fv' (.int .i64 D'.c) (.bool D'.a) (.int .i64 D'.l) (.bool D'.x)).heap[j]?=some o:=fun j hj o e=>by
  unfold set5;rw [Below.heap_setCell _ _ _ j (fun e=>hj e),Below.heap_setCell _ _ _ j (fun e=>hj e),Below.heap_setCell _ _ _ j (fun e=>hj e),Below.heap_setCell _ _ _ j (fun e=>hj e),Below.heap_setCell _ _ _ j (fun e=>hj e)];exact e
 exact ⟨_,rfl,za5 (hkeep h.d k.w) _ _ _ _ _,ho _ (by omega) _ (hkeep h.m k.w),ho _ (by omega) _ (hkeep h.r k.w),IsL.set5 k.f s0 _ _ _ _ _,
  ⟨s0,k.s _ h1 h.s.2.1,k.s _ h2 h.s.2.2⟩,fun t ht hs=>k.s t (by omega) (h.k t ht hs),zai (h.w.trans (k.w.mono (Nat.le_of_lt h0))) (Nat.le_refl _) _ _ _ _ _⟩
theorem Bs.end {w W:World} {fv0 fv:Value} {D:Dp.Dk} {M:Array Value} (h:Bs w w.heap.size fv0 fv D M W):
 ∃Z,((((W.setCell ⟨w.heap.size+1+1,0,none⟩ fv).setCell ⟨w.heap.size+1+1,1,none⟩ (.int .i64 D.c)).setCell ⟨w.heap.size+1+1,2,none⟩ (.bool D.a)).setCell ⟨w.heap.size+1+1,3,none⟩ (.int .i64 D.l)).setCell ⟨w.heap.size+1+1,4,none⟩ (.bool D.x)=Z/\Z.heap[w.heap.size+1+1]?=some (.cells #[fv,.int .i64 D.c,.bool D.a,.int .i64 D.l,.bool D.x] 27 (0,0))/\DkS w fv0 D fv Z:=
 ⟨_,rfl,za5 h.r _ _ _ _ _,IsL.set5 h.f h.s.2.2 _ _ _ _ _,h.k,zai h.w (by omega) _ _ _ _ _⟩
theorem Bs.end2 {w W W':World} {fv0 fv fv':Value} {D D':Dp.Dk} {M:Array Value} (h:Bs w w.heap.size fv0 fv D M W) (k:DkS W fv D' fv' W'):
 ∃Z,((((W'.setCell ⟨w.heap.size+1+1,0,none⟩ fv').setCell ⟨w.heap.size+1+1,1,none⟩ (.int .i64 D'.c)).setCell ⟨w.heap.size+1+1,2,none⟩ (.bool D'.a)).setCell ⟨w.heap.size+1+1,3,none⟩ (.int .i64 D'.l)).setCell ⟨w.heap.size+1+1,4,none⟩ (.bool D'.x)=Z/\Z.heap[w.heap.size+1+1]?=some (.cells #[fv',.int .i64 D'.c,.bool D'.a,.int .i64 D'.l,.bool D'.x] 27 (0,0))/\DkS w fv0 D' fv' Z:=by
 have h0:w.heap.size<W.heap.size:=(Array.getElem?_eq_some_iff.1 h.d).1;have h2:w.heap.size+1+1<W.heap.size:=(Array.getElem?_eq_some_iff.1 h.r).1;exact ⟨_,rfl,za5 (hkeep h.r k.w) _ _ _ _ _,IsL.set5 k.f (k.s _ h2 h.s.2.2) _ _ _ _ _,fun t ht hs=>k.s t (by omega) (h.k t ht hs),zai (h.w.trans (k.w.mono (Nat.le_of_lt h0))) (by omega) _ _ _ _ _⟩
theorem ziH {m:Qm.Mn} (h:Qm.Ok m):(⟨(Fr.fr (Qm.body m)).toArray⟩:ByteArray).size<=3000:=by
 show (Fr.fr (Qm.body m)).toArray.size<=3000;rw [List.size_toArray,Fr.fr_len,Qm.body_len];have h1:=Qm.puts_le (Qm.nums m);rw [Qm.nums_len] at h1;have h2:=h.n1;have h3:=Vp.put_len_le ((Qm.puts (Qm.nums m)).length+4);omega
theorem ne_b {e k:Int} (h:e≠k):(e==k)=false:=by simpa using h
def Meet (w:World) (fv0:Value) (M:Array Value) (R:Dp.Dk×Int) (s:ByteArray) (k:Nat) (W:World):Prop:=∃a n c D',Bs w w.heap.size fv0 (.slice a n c) D' M W/\R=swapS D' s/\Bd D' (k+1)
section
variable {R:Dp.Dk×Int} {D C1 C2 C3:Dp.Dk} {s:ByteArray} {E1 E2 E3:Int} (hR:R=swapS D s)
include hR
theorem swapS1 (h1:Dp.create D nn=(C1,E1)) (hz:E1≠0):R=(C1,E1):=by rw [hR];unfold swapS;simp [h1,hz]
theorem swapS2 (h1:Dp.create D nn=(C1,0)) (h2:Dp.append C1 nn s=(C2,9)) (h3:Dp.delete C2 nn=(C3,0)):R=(C3,9):=by rw [hR];unfold swapS;simp [h1,h2,h3]
theorem swapS3 (h1:Dp.create D nn=(C1,0)) (h2:Dp.append C1 nn s=(C2,9)) (h3:Dp.delete C2 nn=(C3,E3)) (hz:E3≠0):R=(C3,E3):=by rw [hR];unfold swapS;simp [h1,h2,h3,hz]
theorem swapS4 (h1:Dp.create D nn=(C1,0)) (h2:Dp.append C1 nn s=(C2,E2)) (h9:E2≠9) (hz:E2≠0):R=(C2,E2):=by rw [hR];unfold swapS;simp [h1,h2,h9,hz]
theorem swapS5 (h1:Dp.create D nn=(C1,0)) (h2:Dp.append C1 nn s=(C2,0)) (h3:Dp.sync C2 nn=(C3,E3)) (hz:E3≠0):R=(C3,E3):=by rw [hR];unfold swapS;simp [h1,h2,h3,hz]
theorem swapS6 {R4:Dp.Dk×Int} (h1:Dp.create D nn=(C1,0)) (h2:Dp.append C1 nn s=(C2,0)) (h3:Dp.sync C2 nn=(C3,0)) (h4:Dp.rename C3 nn nm=R4):R=R4:=by rw [hR];unfold swapS;simp [h1,h2,h3,h4]
end
theorem zdm (fa:Option Addr) (fn fc:Nat) (D:Dp.Dk) (ma:Option Addr) (mn mc:Nat) (m:Qm.Mn) (w:World) (k:Nat) (hv:IsL FL w (.slice fa fn fc) D.f) (hm:IsL Mfs.IL w (.slice ma mn mc) m.l) (hS:Bd D k) (hk:k<=100000) (hM:Mfs.MnB m):
 Calls Tryz.prog 54 #[zac (.slice fa fn fc) D,Mfs.mnVal ma mn mc m] w (zaL w (.slice fa fn fc) (swap D m)):=by
 obtain ⟨g0,g1,g2,gb,gs⟩:=zfh w #[.slice fa fn fc,.int .i64 D.c,.bool D.a,.int .i64 D.l,.bool D.x] #[.int .i64 m.v,.slice ma mn mc,.int .i64 m.z,.int .u32 m.c] #[.slice none 0 0,.int .i64 0,.bool false,.int .i64 0,.bool false] 27 76 27;have BS0:=zid (show Bs w w.heap.size (.slice fa fn fc) (.slice fa fn fc) D #[.int .i64 m.v,.slice ma mn mc,.int .i64 m.z,.int .u32 m.c] _ from ⟨g0,g1,g2,hv.keep gb,⟨IsL.sep_new hv (Nat.le_refl _),IsL.sep_new hv (by omega),IsL.sep_new hv (by omega)⟩,fun _ _ h=>h,gb⟩);have HM0:=zid (hm.keep gb);have HS:=zid hS;have HSW:=zid (swap.eq_1 D m);have P:=zid fun (W:World) (h:IsL Mfs.IL W (.slice ma mn mc) m.l)=>Mfs.rput10_any ma mn mc m W h hM;clear g0 g1 g2 gb gs hv hm hS hM;unfold zac Mfs.mnVal
 by_cases hok:Qm.Ok m
 case neg=>
  have PP:=P.out;unfold Mfs.putVal10 at PP;rw [Qm.putM_no hok] at PP;replace PP:=zid PP
  have HW:swap D m=(D,1):=by rw [HSW.out,Qm.putM_no hok];rfl
  rw [HW];clear HSW P hok HW
  go_enter Tryz.func54,Tryz.ntmps54
  go_wp2_with fail;generalize World.alloc (World.alloc (World.alloc w _) _) _=w0 at BS0 HM0 ⊢;refine (PP.out w0 HM0.out).mono ?_;rintro e w1 ⟨rfl,b1⟩;have B1:=BS0.out.keep b1;have BS1:=zid B1;obtain ⟨p0,p1,p2,p3,p4⟩:=zaa B1.d;obtain ⟨q0,q1,q2,q3,q4⟩:=zaa B1.r;obtain ⟨qf0,qf1,qf2,qf3,qf4⟩:=zad B1.r;clear B1 b1;go_wp2_with fail;obtain ⟨Z,hZ,Z1,Z2⟩:=BS1.out.end;rw [hZ];obtain ⟨z0,z1,z2,z3,z4⟩:=zaa Z1;refine bodyPost_ret (v:= .tuple #[.agg #[.slice fa fn fc,.int .i64 D.c,.bool D.a,.int .i64 D.l,.bool D.x],.int .i64 1]) (by simp [results,Tryz.results54,go_sem,z0,z1,z2,z3,z4]) rfl ?_;exact ⟨_,_,_,rfl,Z2⟩
 case pos=>
  have PP:=P.out;unfold Mfs.putVal10 at PP;rw [Qm.putM_yes hok] at PP;dsimp only at PP;have HW:=HSW.out;rw [Qm.putM_yes hok] at HW;dsimp only at HW;have hsz:=ziH hok;obtain ⟨s,hs⟩:∃s:ByteArray,(⟨(Fr.fr (Qm.body m)).toArray⟩:ByteArray)=s:=⟨_,rfl⟩;rw [hs] at PP HW hsz;rw [if_neg (by simp)] at HW;replace PP:=zid PP;replace HW:=zid HW;have HZ:=zid hsz;clear HSW P hok hs hsz
  go_enter Tryz.func54,Tryz.ntmps54
  go_wp2_with fail;generalize World.alloc (World.alloc (World.alloc w _) _) _=w0 at BS0 HM0 ⊢;refine (PP.out w0 HM0.out).mono ?_;rintro e w1 ⟨rfl,b1⟩;have B1:=BS0.out.keep b1;have BS1:=zid B1;obtain ⟨p0,p1,p2,p3,p4⟩:=zaa B1.d;clear B1 b1 BS0 PP HM0;go_wp2_with fail;refine (zbF (.slice fa fn fc) D nn _ BS1.out.f).mono ?_;rintro e w2 ⟨rfl,b2⟩;have B2:=BS1.out.keep b2;have BS2:=zid B2;clear p0 p1 p2 p3 p4;obtain ⟨p0,p1,p2,p3,p4⟩:=zaa B2.d;obtain ⟨q0,q1,q2,q3,q4⟩:=zaa B2.r;obtain ⟨qf0,qf1,qf2,qf3,qf4⟩:=zad B2.r;clear B2 b2 BS1
  go_upto_if 19 with (fail)
  go_cut [7] (fun v wc=>v= .int .i64 0/\Meet w (.slice fa fn fc) #[.int .i64 m.v,.slice ma mn mc,.int .i64 m.z,.int .u32 m.c] (swap D m) s k wc)
  case first=>
   rcases @zb4 D.f nn with ⟨hf,hg⟩ | ⟨i,hi,hf,hg⟩
   · rw [hf]
     have HW2:=HW.out
     rw [hg,if_neg (by simp)] at HW2;replace HW2:=zid HW2;clear hf hg HW;go_wp2_with fail;go_meet
     case rel=>exact ⟨rfl,_,_,_,_,BS2.out,HW2.out,HS.out.mono (Nat.le_succ _)⟩
   · rw [hf]
     have h0:(0:Int)<=(i:Int):=by omega
     have HW2:=HW.out;rw [hg,if_pos (by simp)] at HW2;replace HW2:=zid HW2;clear hf hg hi HW;go_wp2_with fail;obtain ⟨⟨X1,E1⟩,hX1⟩:∃R,Dp.delete D nn=R:=⟨_,rfl⟩;have K3:=zbe HS.out (by omega) nn BS2.out.f;rw [hX1] at K3;have HX1:=zid hX1;replace K3:=zid K3;clear hX1;refine K3.out.mono ?_;rintro e v3 ⟨a3,n3,c3,rfl,kk⟩;obtain ⟨x0,x1,x2,x3,x4⟩:=zaa (hkeep BS2.out.d kk.w);obtain ⟨xf0,xf1,xf2,xf3,xf4⟩:=zad (hkeep BS2.out.d kk.w);have LY:=zid (BS2.out.lay kk);clear kk K3;unfold zac
     go_upto_if 26 with (fail)
     obtain ⟨Z3,hZ,Z1⟩:=LY.out;rw [hZ];have BS3:=zid Z1;obtain ⟨p0,p1,p2,p3,p4⟩:=zaa Z1.d;obtain ⟨q0,q1,q2,q3,q4⟩:=zaa Z1.r;obtain ⟨qf0,qf1,qf2,qf3,qf4⟩:=zad Z1.r;clear hZ Z1 x0 x1 x2 x3 x4 xf0 xf1 xf2 xf3 xf4 LY;have HX1':=HX1.out
     by_cases hz:E1=0
     · subst hz
       have HW3:=HW2.out
       rw [HX1',if_neg (by simp)] at HW3;replace HW3:=zid HW3;have HB3:=zam HS.out nn;rw [HX1'] at HB3;replace HB3:=zid HB3;clear HX1' HX1 HW2;go_wp2_with fail;go_meet
       case rel=>exact ⟨rfl,_,_,_,_,BS3.out,HW3.out,HB3.out⟩
     · have HW3:=HW2.out
       rw [HX1',if_pos (by simpa using hz)] at HW3
       replace HW3:=zid HW3;have hz':=ne_b hz;clear HX1' HX1 HW2;go_wp2_with fail;obtain ⟨Z,hZ,Z1,Z2⟩:=BS3.out.end;rw [hZ];obtain ⟨z0,z1,z2,z3,z4⟩:=zaa Z1;refine bodyPost_ret (v:= .tuple #[.agg #[.slice a3 n3 c3,.int .i64 X1.c,.bool X1.a,.int .i64 X1.l,.bool X1.x],.int .i64 E1]) (by simp [results,Tryz.results54,go_sem,z0,z1,z2,z3,z4]) rfl ?_;rw [HW3.out];exact ⟨_,_,_,rfl,Z2⟩
  case rest=>
   obtain ⟨rfl,a0,n0,c0,D0,B0,hsw,hb⟩:=hcut;have BS4:=zid B0;have HSW:=zid hsw;have HB0:=zid hb;clear p0 p1 p2 p3 p4 q0 q1 q2 q3 q4 qf0 qf1 qf2 qf3 qf4 BS2 HW;obtain ⟨p0,p1,p2,p3,p4⟩:=zaa B0.d;obtain ⟨q0,q1,q2,q3,q4⟩:=zaa B0.r;obtain ⟨qf0,qf1,qf2,qf3,qf4⟩:=zad B0.r;clear B0 hsw hb;go_wp2_with fail;obtain ⟨⟨C1,E1⟩,hC1⟩:∃R,Dp.create D0 nn=R:=⟨_,rfl⟩;have K5:=zck HB0.out (by omega) nn (by decide) BS4.out.f;rw [hC1] at K5;have HC1:=zid hC1;replace K5:=zid K5;clear hC1;refine K5.out.mono ?_;rintro e v5 ⟨a5,n5,c5,rfl,kk⟩;obtain ⟨x0,x1,x2,x3,x4⟩:=zaa (hkeep BS4.out.d kk.w);obtain ⟨xf0,xf1,xf2,xf3,xf4⟩:=zad (hkeep BS4.out.d kk.w);have LY:=zid (BS4.out.lay kk);clear kk K5;unfold zac
   go_upto_if 35 with (fail)
   obtain ⟨Z5,hZ,Z1⟩:=LY.out;rw [hZ];have BS5:=zid Z1;clear p0 p1 p2 p3 p4 q0 q1 q2 q3 q4 qf0 qf1 qf2 qf3 qf4;obtain ⟨p0,p1,p2,p3,p4⟩:=zaa Z1.d;obtain ⟨q0,q1,q2,q3,q4⟩:=zaa Z1.r;obtain ⟨qf0,qf1,qf2,qf3,qf4⟩:=zad Z1.r;clear hZ Z1 x0 x1 x2 x3 x4 xf0 xf1 xf2 xf3 xf4 LY
   by_cases hz:E1=0
   case neg=>
    have HF:=swapS1 HSW.out HC1.out hz;replace HF:=zid HF;have hz':=ne_b hz;go_wp2_with fail;obtain ⟨Z,hZ,Z1,Z2⟩:=BS5.out.end;rw [hZ];obtain ⟨z0,z1,z2,z3,z4⟩:=zaa Z1;refine bodyPost_ret (v:= .tuple #[.agg #[.slice a5 n5 c5,.int .i64 C1.c,.bool C1.a,.int .i64 C1.l,.bool C1.x],.int .i64 E1]) (by simp [results,Tryz.results54,go_sem,z0,z1,z2,z3,z4]) rfl ?_;rw [HF.out];exact ⟨_,_,_,rfl,Z2⟩
   subst hz;have HB1:=zas HB0.out nn;rw [HC1.out] at HB1;replace HB1:=zid HB1;go_wp2_with fail;obtain ⟨⟨C2,E2⟩,hC2⟩:∃R,Dp.append C1 nn s=R:=⟨_,rfl⟩;have K6:=zdq HB1.out (by omega) nn s HZ.out BS5.out.f;rw [hC2] at K6;have HC2:=zid hC2;replace K6:=zid K6;clear hC2;refine K6.out.mono ?_;rintro e v6 ⟨a6,n6,c6,rfl,kk⟩;obtain ⟨x0,x1,x2,x3,x4⟩:=zaa (hkeep BS5.out.d kk.w);obtain ⟨xf0,xf1,xf2,xf3,xf4⟩:=zad (hkeep BS5.out.d kk.w);have LY:=zid (BS5.out.lay kk);clear kk K6;unfold zac
   go_upto_if 45 with (fail)
   obtain ⟨Z6,hZ,Z1⟩:=LY.out;rw [hZ];have BS6:=zid Z1;clear p0 p1 p2 p3 p4 q0 q1 q2 q3 q4 qf0 qf1 qf2 qf3 qf4;obtain ⟨p0,p1,p2,p3,p4⟩:=zaa Z1.d;obtain ⟨q0,q1,q2,q3,q4⟩:=zaa Z1.r;obtain ⟨qf0,qf1,qf2,qf3,qf4⟩:=zad Z1.r;clear hZ Z1 x0 x1 x2 x3 x4 xf0 xf1 xf2 xf3 xf4 LY;have HB2:=zbb HB1.out nn HZ.out;rw [HC2.out] at HB2;replace HB2:=zid HB2
   by_cases h9:E2=9
   case pos=>
    subst h9;go_wp2_with fail;obtain ⟨⟨C3,E3⟩,hC3⟩:∃R,Dp.delete C2 nn=R:=⟨_,rfl⟩;have K7:=zbe HB2.out (by omega) nn BS6.out.f;rw [hC3] at K7;have HC3:=zid hC3;replace K7:=zid K7;clear hC3;refine K7.out.mono ?_;rintro e v7 ⟨a7,n7,c7,rfl,kk⟩;obtain ⟨x0,x1,x2,x3,x4⟩:=zaa (hkeep BS6.out.d kk.w);obtain ⟨xf0,xf1,xf2,xf3,xf4⟩:=zad (hkeep BS6.out.d kk.w);have LY:=zid (BS6.out.lay kk);clear kk K7;unfold zac
    go_upto_if 52 with (fail)
    obtain ⟨Z7,hZ,Z1⟩:=LY.out;rw [hZ];have BS7:=zid Z1;clear p0 p1 p2 p3 p4 q0 q1 q2 q3 q4 qf0 qf1 qf2 qf3 qf4;obtain ⟨p0,p1,p2,p3,p4⟩:=zaa Z1.d;obtain ⟨q0,q1,q2,q3,q4⟩:=zaa Z1.r;obtain ⟨qf0,qf1,qf2,qf3,qf4⟩:=zad Z1.r;clear hZ Z1 x0 x1 x2 x3 x4 xf0 xf1 xf2 xf3 xf4 LY
    by_cases hz:E3=0
    · subst hz
      have HF:=zid (swapS2 HSW.out HC1.out HC2.out HC3.out)
      go_wp2_with fail;obtain ⟨Z,hZ,Z1,Z2⟩:=BS7.out.end;rw [hZ];obtain ⟨z0,z1,z2,z3,z4⟩:=zaa Z1;refine bodyPost_ret (v:= .tuple #[.agg #[.slice a7 n7 c7,.int .i64 C3.c,.bool C3.a,.int .i64 C3.l,.bool C3.x],.int .i64 9]) (by simp [results,Tryz.results54,go_sem,z0,z1,z2,z3,z4]) rfl ?_;rw [HF.out];exact ⟨_,_,_,rfl,Z2⟩
    · have HF:=zid (swapS3 HSW.out HC1.out HC2.out HC3.out hz)
      have hz':=ne_b hz
      go_wp2_with fail;obtain ⟨Z,hZ,Z1,Z2⟩:=BS7.out.end;rw [hZ];obtain ⟨z0,z1,z2,z3,z4⟩:=zaa Z1;refine bodyPost_ret (v:= .tuple #[.agg #[.slice a7 n7 c7,.int .i64 C3.c,.bool C3.a,.int .i64 C3.l,.bool C3.x],.int .i64 E3]) (by simp [results,Tryz.results54,go_sem,z0,z1,z2,z3,z4]) rfl ?_;rw [HF.out];exact ⟨_,_,_,rfl,Z2⟩
   have h9':=ne_b h9
   by_cases hz:E2=0
   case neg=>
    have HF:=zid (swapS4 HSW.out HC1.out HC2.out h9 hz);have hz':=ne_b hz;go_wp2_with fail;obtain ⟨Z,hZ,Z1,Z2⟩:=BS6.out.end;rw [hZ];obtain ⟨z0,z1,z2,z3,z4⟩:=zaa Z1;refine bodyPost_ret (v:= .tuple #[.agg #[.slice a6 n6 c6,.int .i64 C2.c,.bool C2.a,.int .i64 C2.l,.bool C2.x],.int .i64 E2]) (by simp [results,Tryz.results54,go_sem,z0,z1,z2,z3,z4]) rfl ?_;rw [HF.out];exact ⟨_,_,_,rfl,Z2⟩
   subst hz;clear h9 h9';go_wp2_with fail;obtain ⟨⟨C3,E3⟩,hC3⟩:∃R,Dp.sync C2 nn=R:=⟨_,rfl⟩;have K8:=zed HB2.out (by omega) nn BS6.out.f;rw [hC3] at K8;have HC3:=zid hC3;replace K8:=zid K8;clear hC3;refine K8.out.mono ?_;rintro e v8 ⟨a8,n8,c8,rfl,kk⟩;obtain ⟨x0,x1,x2,x3,x4⟩:=zaa (hkeep BS6.out.d kk.w);obtain ⟨xf0,xf1,xf2,xf3,xf4⟩:=zad (hkeep BS6.out.d kk.w);have LY:=zid (BS6.out.lay kk);clear kk K8;unfold zac
   go_upto_if 65 with (fail)
   obtain ⟨Z8,hZ,Z1⟩:=LY.out;rw [hZ];have BS7:=zid Z1;clear p0 p1 p2 p3 p4 q0 q1 q2 q3 q4 qf0 qf1 qf2 qf3 qf4;obtain ⟨p0,p1,p2,p3,p4⟩:=zaa Z1.d;obtain ⟨q0,q1,q2,q3,q4⟩:=zaa Z1.r;obtain ⟨qf0,qf1,qf2,qf3,qf4⟩:=zad Z1.r;clear hZ Z1 x0 x1 x2 x3 x4 xf0 xf1 xf2 xf3 xf4 LY;have HB3:=zbs HB2.out nn;rw [HC3.out] at HB3;replace HB3:=zid HB3
   by_cases hz:E3=0
   case neg=>
    have HF:=zid (swapS5 HSW.out HC1.out HC2.out HC3.out hz);have hz':=ne_b hz;go_wp2_with fail;obtain ⟨Z,hZ,Z1,Z2⟩:=BS7.out.end;rw [hZ];obtain ⟨z0,z1,z2,z3,z4⟩:=zaa Z1;refine bodyPost_ret (v:= .tuple #[.agg #[.slice a8 n8 c8,.int .i64 C3.c,.bool C3.a,.int .i64 C3.l,.bool C3.x],.int .i64 E3]) (by simp [results,Tryz.results54,go_sem,z0,z1,z2,z3,z4]) rfl ?_;rw [HF.out];exact ⟨_,_,_,rfl,Z2⟩
   subst hz;go_wp2_with fail;obtain ⟨⟨C4,E4⟩,hC4⟩:∃R,Dp.rename C3 nn nm=R:=⟨_,rfl⟩;have K9:=zkr HB3.out (by omega) nn nm (by decide) BS7.out.f;rw [hC4] at K9;have HF:=zid (swapS6 HSW.out HC1.out HC2.out HC3.out hC4);replace K9:=zid K9;clear hC4;refine K9.out.mono ?_;rintro e v9 ⟨a9,n9,c9,rfl,kk⟩;obtain ⟨x0,x1,x2,x3,x4⟩:=zaa (hkeep BS7.out.r kk.w);obtain ⟨xf0,xf1,xf2,xf3,xf4⟩:=zad (hkeep BS7.out.r kk.w);have LY:=zid (BS7.out.end2 kk);clear kk K9;unfold zac;go_wp2_with fail;obtain ⟨Z,hZ,Z1,Z2⟩:=LY.out;rw [hZ];obtain ⟨z0,z1,z2,z3,z4⟩:=zaa Z1;refine bodyPost_ret (v:= .tuple #[.agg #[.slice a9 n9 c9,.int .i64 C4.c,.bool C4.a,.int .i64 C4.l,.bool C4.x],.int .i64 E4]) (by simp [results,Tryz.results54,go_sem,z0,z1,z2,z3,z4]) rfl ?_;rw [HF.out];exact ⟨_,_,_,rfl,Z2⟩
end Sto
namespace Lg
open Dp So Dsk Sto
section
variable {use:List ByteArray} {D:Dk} {n:ByteArray} {t:List ByteArray}
theorem sweepT_use (h:n∈use):sweepT use D (n::t)=sweepT use D t:=by rw [sweepT,if_pos h]
theorem sweepT_err (h:n∉use) (he:(delete D n).2≠0):sweepT use D (n::t)=delete D n:=by rw [sweepT,if_neg h,if_pos he]
theorem sweepT_go (h:n∉use) (he:(delete D n).2=0):sweepT use D (n::t)=sweepT use (delete D n).1 t:=by rw [sweepT,if_neg h,if_neg (fun h=>h he)]
theorem zeH (use:List ByteArray):∀(t:List ByteArray) {D:Dk} {k:Nat},Bd D k->Bd (sweepT use D t).1 (k+t.length)
 | [],_,_,h=>h
 | n::t,D,k,h=>by
  rw [List.length_cons]
  by_cases hu:n∈use
  · rw [sweepT_use hu]
    exact (zeH use t h).mono (by omega)
  · by_cases he:(delete D n).2=0
    · rw [sweepT_go hu he]
      exact (zeH use t (zam h n)).mono (by omega)
    · rw [sweepT_err hu he]
      exact (zam h n).mono (by omega)
end
theorem bd_sweep {D:Dk} {k:Nat} (h:Bd D k) (use:List ByteArray):Bd (sweep D use).1 (k+k):=(zeH use _ h).mono (by rw [List.length_map];have:=h.n;omega)
theorem bd_cut {D:Dk} {k:Nat} (h:Bd D k) (n:ByteArray) (w:Nat) (hw:w<=9223372036854775807):Bd (Dp.cut D n w).1 (k+1):=by
 have e:Dp.act D ⟨3,(w:Int),n,⟨#[]⟩,[]⟩=Dp.cut D n w:=by unfold Dp.act;simp
 rw [<-e];exact zbO h (a:=⟨3,(w:Int),n,⟨#[]⟩,[]⟩) (by show (w:Int)<=_;omega) (by show 0<=3000;omega)
def segG (D:Dk) (b:Int):Rt.Sg:=⟨b,(Gp.full ((dat D (segN b)).getD []) b).1.length,(Gp.full ((dat D (segN b)).getD []) b).2.1⟩
def SegGood (D:Dk) (l:List Int) (i:Nat):Prop:=dat D (segN (l.getD i 0))≠none/\(i+1<l.length->(Gp.full ((dat D (segN (l.getD i 0))).getD []) (l.getD i 0)).2.2=0/\l.getD i 0+((Gp.full ((dat D (segN (l.getD i 0))).getD []) (l.getD i 0)).1.length:Int)=l.getD (i+1) 0)
noncomputable def segA (D:Dk) (l:List Int):Option (List Rt.Sg):=open Classical in if ∀i,i<l.length->SegGood D l i then some (l.map (segG D)) else none
theorem segA_yes {D:Dk} {l:List Int} (h:∀i,i<l.length->SegGood D l i):segA D l=some (l.map (segG D)):=if_pos h
theorem segA_no {D:Dk} {l:List Int} {i:Nat} (hi:i<l.length) (h:¬SegGood D l i):segA D l=none:=if_neg fun H=>h (H i hi)
def lastW (D:Dk) (l:List Int):Nat:=(Gp.full ((dat D (segN (l.getD (l.length-1) 0))).getD []) (l.getD (l.length-1) 0)).2.1
theorem zgP {D:Dk} {b:Int} {t:List Int}:SegGood D (b::t) 0↔(dat D (segN b)≠none/\(t≠[]->(Gp.full ((dat D (segN b)).getD []) b).2.2=0/\b+((Gp.full ((dat D (segN b)).getD []) b).1.length:Int)=t.headD 0)):=by
 unfold SegGood
 have e:(b::t).getD (0+1) 0=t.headD 0:=by cases t<;>rfl
 have e2:(0+1<(b::t).length)↔t≠[]:=by cases t<;>simp
 rw [e,e2]
 rfl
theorem zfG {D:Dk} {b:Int} {t:List Int}:(∀i,i<(b::t).length->SegGood D (b::t) i)↔(SegGood D (b::t) 0/\∀i,i<t.length->SegGood D t i):=by
 have sh:∀i,SegGood D (b::t) (i+1)↔SegGood D t i:=fun i=>by
  unfold SegGood;rw [List.length_cons];simp only [List.getD_cons_succ,Nat.add_lt_add_iff_right]
 constructor
 · exact fun h=>⟨h 0 (by simp),fun i hi=>(sh i).1 (h (i+1) (by simpa using hi))⟩
 · rintro ⟨h0,h⟩ i hi
   cases i with
   | zero=>exact h0
   | succ i=>exact (sh i).2 (h i (by simpa using hi))
theorem zio (D:Dk):∀l:List Int,l≠[]->zeJ D l=(segA D l).map fun gs=>(gs,lastW D l)
 | [],h=>absurd rfl h
 | b::t,_=>by
  unfold zeJ
  rcases hd:dat D (segN b) with _ | s
  · dsimp only
    rw [segA_no (i:=0) (by simp) (fun h=>(zgP.1 h).1 hd)]
    rfl
  · dsimp only
    have g0:= @zgP D b t
    rw [hd,Option.getD_some] at g0
    by_cases hb:t≠[]/\((Gp.full s b).2.2≠0\/b+((Gp.full s b).1.length:Int)≠t.headD 0)
    · rw [if_pos hb,segA_no (i:=0) (by simp) (fun h=>by
       obtain ⟨_,h2⟩:=g0.1 h;obtain ⟨h3,h4⟩:=h2 hb.1
       rcases hb.2 with h5 | h5
       · exact h5 h3
       · exact h5 h4)]
      rfl
    · rw [if_neg hb]
      have hg:SegGood D (b::t) 0:=g0.2 ⟨by simp,fun ht=>by
       rcases Classical.em ((Gp.full s b).2.2=0) with h1 | h1
       · rcases Classical.em (b+((Gp.full s b).1.length:Int)=t.headD 0) with h2 | h2
         · exact ⟨h1,h2⟩
         · exact absurd ⟨ht,.inr h2⟩ hb
       · exact absurd ⟨ht,.inl h1⟩ hb⟩
      have eG:segG D b=⟨b,(Gp.full s b).1.length,(Gp.full s b).2.1⟩:=by unfold segG;rw [hd];rfl
      by_cases ht:t=[]
      · subst ht
        unfold zeJ
        dsimp only;rw [segA_yes (zfG.2 ⟨hg,fun i hi=>by simp at hi⟩)];show some ([_],_)=some ([segG D b],lastW D [b]);rw [eG]
        have:lastW D [b]=(Gp.full s b).2.1:=by
         show (Gp.full ((dat D (segN b)).getD []) b).2.1=_;rw [hd];rfl
        rw [this]
        rfl
      · rw [zio D t ht]
        have eL:lastW D (b::t)=lastW D t:=by
         unfold lastW
         have:(b::t).getD ((b::t).length-1) 0=t.getD (t.length-1) 0:=by
          cases t with
          | nil=>exact absurd rfl ht
          | cons c t=>rfl
         rw [this]
        by_cases ha:∀i,i<t.length->SegGood D t i
        · rw [segA_yes ha,segA_yes (zfG.2 ⟨hg,ha⟩),Option.map_some,Option.map_some]
          dsimp only
          rw [if_neg ht,eL,List.map_cons,eG]
        · have e1:segA D t=none:=if_neg ha
          have e2:segA D (b::t)=none:=if_neg fun h=>ha (zfG.1 h).2
          rw [e1,e2]
          rfl
noncomputable def toldT (D:Dk) (s:List UInt8):Option St:=open Classical in
 if (Qm.getM s).2≠0\/ ¬SnapOk D (Qm.getM s).1 then none
 else (segA D (Qm.getM s).1.l).map fun gs=>⟨D,(Qm.getM s).1.v,gs,(gs.getD (gs.length-1) Rt.zero).b+(gs.getD (gs.length-1) Rt.zero).n,(gs.getD (gs.length-1) Rt.zero).b+(gs.getD (gs.length-1) Rt.zero).n,(Qm.getM s).1.z,(Qm.getM s).1.c⟩
section
variable {D:Dk} {s:List UInt8}
theorem told_no (h:(Qm.getM s).2≠0\/ ¬SnapOk D (Qm.getM s).1):toldT D s=none:=if_pos h
theorem told_go (h1:(Qm.getM s).2=0) (h2:SnapOk D (Qm.getM s).1):toldT D s=(segA D (Qm.getM s).1.l).map fun gs=>⟨D,(Qm.getM s).1.v,gs,(gs.getD (gs.length-1) Rt.zero).b+(gs.getD (gs.length-1) Rt.zero).n,(gs.getD (gs.length-1) Rt.zero).b+(gs.getD (gs.length-1) Rt.zero).n,(Qm.getM s).1.z,(Qm.getM s).1.c⟩:=if_neg fun h=>h.elim (fun h=>h h1) (fun h=>h h2)
end
def useS (S:St):List ByteArray:=nm::((if 0<floor S then [snapN (floor S)] else [])++S.g.map fun g=>segN g.b)
def settT (S:St):Dk×Int:=
 if (sweep S.d (useS S)).2≠0 then sweep S.d (useS S) else endT (sweep S.d (useS S)).1 (segN (lastG S).b) (lastG S).z.toNat
noncomputable def freshT (D:Dk):St×Int:=if (sweep D []).2≠0 then (bare (sweep D []).1,(sweep D []).2) else zal (sweep D []).1
theorem getM_ok {s:List UInt8} (h:(Qm.getM s).2=0):Qm.Ok (Qm.getM s).1:=by
 unfold Qm.getM at h ⊢
 rcases hx:Fr.nx s with ⟨e,j,b⟩
 rw [hx] at h
 cases e with
 | zero=>
  dsimp only at h ⊢
  by_cases hm:∃m,Qm.Ok m/\Fr.fr (Qm.body m)=s
  · rw [dif_pos hm];exact hm.choose_spec.1
  · rw [dif_neg hm] at h;exact absurd h (by decide)
 | succ e=>exact absurd h (by show ((e+1:Nat):Int)≠0;omega)
theorem segG_map (D:Dk) (l:List Int):(l.map (segG D)).map (fun g=>segN g.b)=l.map segN:=by rw [List.map_map];rfl
theorem last_map (D:Dk) {l:List Int} (h:l≠[]):(l.map (segG D)).getD ((l.map (segG D)).length-1) Rt.zero=segG D (l.getD (l.length-1) 0):=by
 have hp:=List.length_pos_iff.2 h;rw [List.length_map,List.getD_eq_getElem?_getD,List.getD_eq_getElem?_getD,List.getElem?_map,List.getElem?_eq_getElem (show l.length-1<l.length by omega)]
 rfl
theorem head_map (D:Dk) (l:List Int):((l.map (segG D)).headD Rt.zero).b=l.headD 0:=by cases l<;>rfl
theorem openT_eq (D:Dk):openT D=if D.x=true then (bare D,10) else match dat D nm with
 | none=>freshT D
 | some s=>match toldT D s with
  | none=>(bare D,3)
  | some S=>if (settT S).2≠0 then (bare (settT S).1,(settT S).2) else ({S with d:=(settT S).1},0):=by
 classical
 unfold openT
 by_cases hx:D.x=true
 · rw [if_pos hx,if_pos hx]
 rw [if_neg hx,if_neg hx]
 rcases dat D nm with _ | s
 · rfl
 dsimp only;unfold toldT
 by_cases h1:(Qm.getM s).2≠0\/ ¬SnapOk D (Qm.getM s).1
 · rw [if_pos h1,if_pos h1]
 rw [if_neg h1,if_neg h1];have hok:=getM_ok (s:=s) (Classical.not_not.1 fun h=>h1 (.inl h));have hne:(Qm.getM s).1.l≠[]:=List.length_pos_iff.1 hok.n0;generalize (Qm.getM s).1=m at*;unfold zjB;rw [zio D _ hne]
 rcases hs:segA D m.l with _ | gs
 · rfl
 have hgs:gs=m.l.map (segG D):=by
  unfold segA at hs
  split at hs
  · exact (Option.some.inj hs).symm
  · cases hs
 subst hgs;rw [Option.map_some,Option.map_some];dsimp only;rw [last_map D hne]
 have eu:useS ⟨D,m.v,m.l.map (segG D),(segG D (m.l.getD (m.l.length-1) 0)).b+(segG D (m.l.getD (m.l.length-1) 0)).n,(segG D (m.l.getD (m.l.length-1) 0)).b+(segG D (m.l.getD (m.l.length-1) 0)).n,m.z,m.c⟩=useT m:=by
  unfold useS useT So.floor;dsimp only;rw [segG_map,head_map]
 have el:lastG ⟨D,m.v,m.l.map (segG D),(segG D (m.l.getD (m.l.length-1) 0)).b+(segG D (m.l.getD (m.l.length-1) 0)).n,(segG D (m.l.getD (m.l.length-1) 0)).b+(segG D (m.l.getD (m.l.length-1) 0)).n,m.z,m.c⟩=segG D (m.l.getD (m.l.length-1) 0):=last_map D hne
 have ew:lastW D m.l=(segG D (m.l.getD (m.l.length-1) 0)).z.toNat:=by
  unfold lastW segG;dsimp only;rw [Int.toNat_natCast]
 unfold settT;rw [eu,el,ew]
 by_cases h2:(sweep D (useT m)).2≠0
 · rw [if_pos h2,if_pos h2,if_pos h2]
 · rw [if_neg h2,if_neg h2]
end Lg
end Go.Proofs.YtgmppfpllogdcaaGreat

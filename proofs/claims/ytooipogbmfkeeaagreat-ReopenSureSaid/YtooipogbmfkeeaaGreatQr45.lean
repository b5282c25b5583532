/-
  Parts of what the laws of this seat stand on:RoAwk,TrmAct,DiskSame.
-/
import Derived.Test.YtooipogbmfkeeaaGreatQr1
import Derived.Deep.DeepCutAuto
import Derived.Laws.StructEq
import Derived.Test.YtooipogbmfkeeaaGreatQr12
import Derived.Test.YtooipogbmfkeeaaGreatQr21
import Derived.Test.YtooipogbmfkeeaaGreatQr28
import Derived.Test.YtooipogbmfkeeaaGreatQr31
import Derived.Test.YtooipogbmfkeeaaGreatQr32
import Derived.Test.YtooipogbmfkeeaaGreatQr43
import Derived.Test.YtooipogbmfkeeaaGreatQr44
set_option maxRecDepth 100000
set_option maxHeartbeats 6400000
namespace Go.Proofs.YtooipogbmfkeeaaGreat
namespace Ro
open Go.RowKit So Dsk Rts Sto
theorem zcb {D:Dp.Dk} {k:Nat} (h:Bd D k) (ks:List Int):Bd (Dp.crash D ks) (k+1):=by
 have e:(Dp.act D ⟨8,0,⟨#[]⟩,⟨#[]⟩,ks⟩).1=Dp.crash D ks:=by unfold Dp.act;simp
 rw [<-e];exact zbO h (a:=⟨8,0,⟨#[]⟩,⟨#[]⟩,ks⟩) (by show (0:Int)<=_;omega) (by show 0<=3000;omega)
theorem zd6 {a:Option Addr} {n c:Nat} {D:Dp.Dk} {k:Nat} {kv:Value} {ks:List Int} {w:World} (h:Bd D k) (hk:k<=200000) (hv:IsL FL w (.slice a n c) D.f) (hkv:IsL KL w kv ks):
 Calls Tryz.prog 19 #[zac (.slice a n c) D,kv] w fun e w'=>∃a n c,e= .returned (zac (.slice a n c) (Dp.crash D ks))/\IsL FL w' (.slice a n c) (Dp.crash D ks).f/\(∀j,j<w.heap.size->Sep (.slice a n c) j)/\Below w.heap.size w w':=by
 refine (zjK (.slice a n c) D kv ks w hv (zax h (by omega)) hkv).mono ?_;rintro e w' ⟨v,rfl,ho,hb⟩;have hs:=zax (zcb h ks) (by omega);have hi:=ho.is (by have:=hs.n;unfold maxLen;exact Nat.le_trans this (by decide)) hs.flb;obtain ⟨a',c',rfl,_⟩:=id hi;exact ⟨_,_,_,rfl,hi,fun j hj=>za7 ho hj,hb⟩
theorem kl_two (W:World) (x y:Int) (hx: -9223372036854775808<=x/\x<=9223372036854775807) (hy: -9223372036854775808<=y/\y<=9223372036854775807):IsL KL (W.alloc (.cells #[.int .i64 x,.int .i64 y] 3)) (.slice (some ⟨W.heap.size,0,none⟩) 2 2) [x,y]:=by
 refine ⟨_,2,rfl,⟨(by decide:2<=maxLen),Nat.le_refl 2⟩,fun z hz=>?_,.inr ⟨W.heap.size,0,rfl,fun j u hj=>?_⟩⟩
 · simp only [List.mem_cons,List.not_mem_nil,or_false] at hz
   rcases hz with rfl | rfl
   · exact hx
   · exact hy
 · have:=zas W W.heap.size [.int .i64 x,.int .i64 y] 3 rfl j u hj
   rwa [zak] at this
theorem zis (w:World):Calls Tryz.prog 9 #[] w fun e w'=>e= .returned (.bool true)/\Below w.heap.size w w':=by
 obtain ⟨S0,S1,X,Y,A⟩:=aw14;have OP:=fun W:World=>zbd none 0 0 Dp.empty W 0 (IsL.nil W none 0) zmb (by decide);rw [A.o] at OP;have AP:=fun (a a':Option Addr) (n c n' c':Nat) (W:World) (h1:IsL FL W (.slice a n c) S0.d.f) (h2:IsL Rts.SL W (.slice a' n' c') S0.g)=>zdC a a' n c n' c' S0 100 rA W _ h1 h2 A.g0.ne (A.g0.stb (by decide) (by decide) (by decide)) A.g0.d (by decide) (by have:=A.g0.v;omega) ⟨by decide,by decide,by decide,by decide,by decide⟩;rw [A.a] at AP;have CR:=fun (a:Option Addr) (n c:Nat) (kv:Value) (ks:List Int) (W:World) (h:IsL FL W (.slice a n c) S1.d.f) (hk:IsL KL W kv ks)=>zd6 A.g1.d (by decide) h hk;have OX:=fun (a:Option Addr) (n c:Nat) (W:World) (h:IsL FL W (.slice a n c) (Dp.crash S1.d [9,5]).f)=>zbd a n c (Dp.crash S1.d [9,5]) W _ h (zcb A.g1.d _) (by decide);have OY:=fun (a:Option Addr) (n c:Nat) (W:World) (h:IsL FL W (.slice a n c) (Dp.crash S1.d [9,99]).f)=>zbd a n c (Dp.crash S1.d [9,99]) W _ h (zcb A.g1.d _) (by decide);rw [A.x.1] at OX;rw [A.y.1] at OY;have hX:=zid A.x.2;have hY:=zid A.y.2;have hg0:=A.g;unfold za3 rA at AP;unfold zag at AP;unfold zac at OP CR OX OY;unfold Dp.crash at OX OY CR;dsimp only [Dp.empty] at OP;dsimp only at OX OY CR AP;replace OP:=zid OP;replace AP:=zid AP;replace CR:=zid CR;replace OX:=zid OX;replace OY:=zid OY;have M0:=zid (Ms.start (w:=w) (fv:= .slice none 0 0) (gv:= .slice none 0 0) (lf:=[]) (lg:=[]) (IsL.nil w none 0) (IsL.nil w none 0));clear A
 go_enter Tryz.func9,Tryz.ntmps9
 go_wp2_with fail;refine (OP.out _).mono ?_;rintro e w1 ⟨a1,n1,c1,a2,n2,c2,rfl,ks⟩
 have hn2:n2=1:=by have:=ks.g.len.1;rw [hg0] at this;exact this
 subst hn2;have M1:=zid ((M0.out.call2 mcs mcs ks).alloc #[.slice a1 n1 c1,.int .i64 S0.d.c,.bool S0.d.a,.int .i64 S0.d.l,.bool S0.d.x,.int .i64 S0.v,.slice a2 1 c2,.int .i64 S0.x,.int .i64 S0.s,.int .i64 S0.z,.int .u32 S0.c] 30);clear ks M0 OP hg0;unfold zag;dsimp only;go_upto_region 2 with (fail);generalize w1.alloc _=w2 at M1 ⊢;generalize w1.heap.size=t at M1 ⊢;obtain ⟨⟨k0,k1,k2,k3,k4⟩,k5,k6,k7,k8,k9,k10⟩:=zab (M1.out.at_ (t:=t) mcs);go_wp2_with fail;refine (AP.out _ _ _ _ _ _ _ (M1.out.fl mcs) (M1.out.sl mcs)).mono ?_;rintro e w3 ⟨a3,n3,c3,a4,n4,c4,rfl,ks⟩;have kf:=zah (hkeep (M1.out.at_ (t:=t) mcs) ks.w);have kk:=zab (hkeep (M1.out.at_ (t:=t) mcs) ks.w);have LY:=zid ((M1.out.call2 mcs mcs ks).lay11 (t:=t) (cs':=[(t,sC (.slice a3 n3 c3) (.slice a4 n4 c4) S1)]) mcs (.slice a3 n3 c3) (.int .i64 S1.d.c) (.bool S1.d.a) (.int .i64 S1.d.l) (.bool S1.d.x) (.int .i64 S1.v) (.slice a4 n4 c4) (.int .i64 S1.x) (.int .i64 S1.s) (.int .i64 S1.z) (.int .u32 S1.c) (fun p hp=> .inl (List.mem_singleton.1 hp)));clear k0 k1 k2 k3 k4 k5 k6 k7 k8 k9 k10 ks AP M1;obtain ⟨⟨k0,k1,k2,k3,k4⟩,k5,k6,k7,k8,k9,k10⟩:=kk;unfold zag;go_upto_region 5 with (fail);obtain ⟨Z,hZ,MZ⟩:=LY.out;rw [hZ];have M2:=zid MZ;clear hZ MZ LY k0 k1 k2 k3 k4 k5 k6 k7 k8 k9 k10 kf;obtain ⟨⟨k0,k1,k2,k3,k4⟩,k5,k6,k7,k8,k9,k10⟩:=zab (M2.out.at_ (t:=t) mcs);have KN:=zid (kl_two Z 9 5 (by decide) (by decide));have AB:=zid (zaC Z (.cells #[.int .i64 9,.int .i64 5] 3));go_wp2_with fail;refine (CR.out _ _ _ _ [9,5] _ ((M2.out.keep AB.out).fl mcs) KN.out).mono ?_;rintro e w4 ⟨a5,n5,c5,rfl,hc,_,b4⟩;have HC:=zid hc;have B4:=zid (AB.out.trans (b4.mono AB.out.size));clear hc b4 k0 k1 k2 k3 k4 k5 k6 k7 k8 k9 k10 KN AB;go_wp2_with fail;refine (OX.out _ _ _ _ HC.out).mono ?_;rintro e w5 ⟨a6,n6,c6,a7,n7,c7,rfl,ks⟩;have ALC:=zaC w5 (.cells #[.slice a6 n6 c6,.int .i64 X.d.c,.bool X.d.a,.int .i64 X.d.l,.bool X.d.x,.int .i64 X.v,.slice a7 n7 c7,.int .i64 X.x,.int .i64 X.s,.int .i64 X.z,.int .u32 X.c] 30);have HXB:=zid (heap_alloc_new w5 (.cells #[.slice a6 n6 c6,.int .i64 X.d.c,.bool X.d.a,.int .i64 X.d.l,.bool X.d.x,.int .i64 X.v,.slice a7 n7 c7,.int .i64 X.x,.int .i64 X.s,.int .i64 X.z,.int .u32 X.c] 30));have M3:=zid (((M2.out.keep B4.out).keep ks.w).keep ALC);clear ks B4 HC ALC M2 OX;unfold zag;dsimp only;go_upto_region 6 with (fail);generalize w5.alloc _=w6 at M3 HXB ⊢;generalize w5.heap.size=tx at HXB ⊢;obtain ⟨⟨k0,k1,k2,k3,k4⟩,k5,k6,k7,k8,k9,k10⟩:=zab (M3.out.at_ (t:=t) mcs);have KN:=zid (kl_two w6 9 99 (by decide) (by decide));have AB:=zid (zaC w6 (.cells #[.int .i64 9,.int .i64 99] 3));go_wp2_with fail;refine (CR.out _ _ _ _ [9,99] _ ((M3.out.keep AB.out).fl mcs) KN.out).mono ?_;rintro e w7 ⟨a8,n8,c8,rfl,hc,_,b7⟩;have HC:=zid hc;have B7:=zid (AB.out.trans (b7.mono AB.out.size));clear hc b7 k0 k1 k2 k3 k4 k5 k6 k7 k8 k9 k10 KN AB;go_wp2_with fail;refine (OY.out _ _ _ _ HC.out).mono ?_;rintro e w8 ⟨a9,n9,c9,a10,n10,c10,rfl,ks⟩;have ALC:=zaC w8 (.cells #[.slice a9 n9 c9,.int .i64 Y.d.c,.bool Y.d.a,.int .i64 Y.d.l,.bool Y.d.x,.int .i64 Y.v,.slice a10 n10 c10,.int .i64 Y.x,.int .i64 Y.s,.int .i64 Y.z,.int .u32 Y.c] 30);have HYB:=zid (heap_alloc_new w8 (.cells #[.slice a9 n9 c9,.int .i64 Y.d.c,.bool Y.d.a,.int .i64 Y.d.l,.bool Y.d.x,.int .i64 Y.v,.slice a10 n10 c10,.int .i64 Y.x,.int .i64 Y.s,.int .i64 Y.z,.int .u32 Y.c] 30));have HXB2:=zid (hkeep (hkeep (hkeep HXB.out B7.out) ks.w) ALC);have M4:=zid (((M3.out.keep B7.out).keep ks.w).keep ALC);clear ks B7 HC ALC M3 OY HXB CR;unfold zag;dsimp only;go_upto_region 7 with (fail);generalize w8.alloc _=w9 at M4 HXB2 HYB ⊢;generalize w8.heap.size=ty at HYB ⊢;obtain ⟨⟨k0,k1,k2,k3,k4⟩,k5,k6,k7,k8,k9,k10⟩:=zab HXB2.out;obtain ⟨⟨y0,y1,y2,y3,y4⟩,y5,y6,y7,y8,y9,y10⟩:=zab HYB.out;have BW:=zid M4.out.w;rw [hX.out] at k7;rw [hY.out] at y7;clear M4 HXB2 HYB hX hY k0 k1 k2 k3 k4 k5 k6 k8 k9 k10 y0 y1 y2 y3 y4 y5 y6 y8 y9 y10;go_wp2_with fail;go_ret;exact ⟨by first | rfl | simp,BW.out⟩
end Ro
namespace Trm
open Go.RowKit So Dsk Rts Sto
def paz:Lg.Pa:=⟨0,0,0,⟨#[]⟩⟩
def zfN (a:Lg.Pa):List Value:=[.int .i64 a.k,.int .i64 a.n,.int .i64 a.m,.string a.d]
def PaB (a:Lg.Pa):Prop:=(-9223372036854775808<=a.k/\a.k<=9223372036854775807)/\(-9223372036854775808<=a.n/\a.n<=9223372036854775807)/\(-9223372036854775808<=a.m/\a.m<=9223372036854775807)/\a.d.size<=9223372036854775807
def PaL:Lay Lg.Pa where
 enc:=zfN
 k:=4
 len:=fun _=>rfl
 one:=by intro f u hu;simp [zfN] at hu;rcases hu with rfl | rfl | rfl | rfl<;>rfl
 pos:=by decide
 T:=113
 ok:=PaB
 z:=paz
theorem pa_at {w:World} {fa:Option Addr} {fn fc:Nat} {l:List Lg.Pa} (h:IsL PaL w (.slice fa fn fc) l) {i:Nat} (hi:i<fn):
 ∃b off,fa=some ⟨b,off,none⟩/\w.cell? ⟨b,off+i*4,none⟩=some (.int .i64 (l.getD i paz).k)/\w.cell? ⟨b,off+i*4+1,none⟩=some (.int .i64 (l.getD i paz).n)/\w.cell? ⟨b,off+i*4+2,none⟩=some (.int .i64 (l.getD i paz).m)/\w.cell? ⟨b,off+i*4+3,none⟩=some (.string (l.getD i paz).d):=by
 have h':=h;obtain ⟨a',cap',e,_,_,h3⟩:=h
 injection e with e1 e2 e3
 rcases h3 with h3 | ⟨b,off,h4,_⟩
 · rw [h3] at e2;simp at e2;omega
 · subst e1
   subst h4
   exact ⟨b,off,rfl,h'.at_ hi 0 _ rfl,h'.at_ hi 1 _ rfl,h'.at_ hi 2 _ rfl,h'.at_ hi 3 _ rfl⟩
def Pr (w:World) (t:Nat) (S:St) (W:World):Prop:=∃a n c a' n' c',Ms w w.heap.size (.slice none 0 0) (.slice none 0 0) [(t,stC (.slice a n c) (.slice a' n' c') S),(w.heap.size,zeC)] [(.slice a n c,S.d.f)] [(.slice a' n' c',S.g)] W
theorem Pr.w {w W:World} {t:Nat} {S:St} (h:Pr w t S W):Below w.heap.size w W:=by
 obtain ⟨a,n,c,a',n',c',h⟩:=h;exact h.w
theorem tw {t t1:Nat} {o o' o1:Obj} (h1:t1≠t):∀q∈[(t,o'),(t1,o1)],q=(t,o')\/(q∈[(t,o),(t1,o1)]/\q.1≠t):=fun q hq=>by
 rcases List.mem_cons.1 hq with rfl | hq
 · exact .inl rfl
 · rw [List.mem_singleton] at hq
   subst hq
   exact .inr ⟨mcm mcs,h1⟩
theorem zk2 {w W W':World} {t:Nat} {S T:St} {a a' b b':Option Addr} {n c n' c' m d m' d':Nat} (ht:w.heap.size<t) (h:Ms w w.heap.size (.slice none 0 0) (.slice none 0 0) [(t,stC (.slice a n c) (.slice a' n' c') S),(w.heap.size,zeC)] [(.slice a n c,S.d.f)] [(.slice a' n' c',S.g)] W) (k:StS W (.slice a n c) (.slice a' n' c') T (.slice b m d) (.slice b' m' d') W'):
 ∃Z,((((((((((W'.setCell ⟨t,0,none⟩ (.slice b m d)).setCell ⟨t,1,none⟩ (.int .i64 T.d.c)).setCell ⟨t,2,none⟩ (.bool T.d.a)).setCell ⟨t,3,none⟩ (.int .i64 T.d.l)).setCell ⟨t,4,none⟩ (.bool T.d.x)).setCell ⟨t,5,none⟩ (.int .i64 T.v)).setCell ⟨t,6,none⟩ (.slice b' m' d')).setCell ⟨t,7,none⟩ (.int .i64 T.x)).setCell ⟨t,8,none⟩ (.int .i64 T.s)).setCell ⟨t,9,none⟩ (.int .i64 T.z)).setCell ⟨t,10,none⟩ (.int .u32 T.c)=Z/\Pr w t T Z:=by
 obtain ⟨Z,h1,h2⟩:=(h.call2 mcs mcs k).lay11 (t:=t) (cs':=[(t,stC (.slice b m d) (.slice b' m' d') T),(w.heap.size,zeC)]) mcs (.slice b m d) (.int .i64 T.d.c) (.bool T.d.a) (.int .i64 T.d.l) (.bool T.d.x) (.int .i64 T.v) (.slice b' m' d') (.int .i64 T.x) (.int .i64 T.s) (.int .i64 T.z) (.int .u32 T.c) (tw (by show w.heap.size≠t;omega));exact ⟨Z,h1,_,_,_,_,_,_,h2.sub (fun _ h=>h) (fun p hp=>by rw [List.mem_singleton] at hp;rw [hp];exact mcs) (fun p hp=>by rw [List.mem_singleton] at hp;rw [hp];exact mcs)⟩
def Ok13 (l:List Lg.Pa):Prop:=l.length<=40/\∀a∈l,a.d.size<=64
def PlOut (w:World) (q:Int) (l:List Lg.Pa) (e:Ending) (w':World):Prop:=∃a n c a' n' c' S b,e= .returned (.tuple #[zag (.slice a n c) (.slice a' n' c') S,.bool b])/\Below w.heap.size w w'/\(b=true->l.length<=40/\S=Lg.playL q l l.length/\StS w (.slice none 0 0) (.slice none 0 0) S (.slice a n c) (.slice a' n' c') w')/\(Ok13 l->b=true)
theorem zjP (q:Int) (pa:Option Addr) (pn pc:Nat) (l:List Lg.Pa) (w:World) (hq:0<q/\q<=1000) (hl:IsL PaL w (.slice pa pn pc) l):
 Calls Tryz.prog 37 #[.int .i64 q,.slice pa pn pc] w (PlOut w q l):=by
 have hln:=hl.len.1;have hlm:=hl.len.2;unfold maxLen at hlm;have HL:=zid hl;have HLN:=zid hln;have CQ:=zid fun W:World=>zdB none 0 0 Dp.empty W 0 (IsL.nil W none 0) zmb (by decide);have G0:=zid (show G13 q 0 0 (zal Dp.empty).1 from G13.new (by omega));have HA:∀a∈l,a.n<=9223372036854775807:=fun a ha=>(hl.ok a ha).2.1.2;have HG:=zid fun n (hn:n<=40)=>G13.acts hq.1 l HA n hn;have HOK:=zid hl.ok;have R0:=zid (heap_alloc_new w (.cells #[.slice none 0 0,.int .i64 0,.bool false,.int .i64 0,.bool false,.int .i64 0,.slice none 0 0,.int .i64 0,.int .i64 0,.int .i64 0,.int .u32 0] 30));have RB:=zid ((Below.refl w.heap.size w).alloc (Nat.le_refl _) (.cells #[.slice none 0 0,.int .i64 0,.bool false,.int .i64 0,.bool false,.int .i64 0,.slice none 0 0,.int .i64 0,.int .i64 0,.int .i64 0,.int .u32 0] 30));have HP0:=zid (show Lg.playL q l 0=(zal Dp.empty).1 from rfl);have h10:=Lg.Log.new (q:=q) (by omega);obtain ⟨⟨S0,E0⟩,hc⟩:∃R,zal Dp.empty=R:=⟨_,rfl⟩;rw [hc] at CQ HP0
 obtain rfl:E0=0:=by have:=h10.1;rw [hc] at this;exact this
 dsimp only at HP0;unfold zac at CQ;clear hl hln HA hc h10 G0
 go_enter Tryz.func37,Tryz.ntmps37
 go_wp2_with fail;generalize World.alloc w _=w0 at R0 RB ⊢;refine (CQ.out _).mono ?_;rintro e w1 ⟨a1,n1,c1,a2,n2,c2,rfl,ks⟩
 have P1:=zid (show Pr w w1.heap.size S0 (w1.alloc (stC (.slice a1 n1 c1) (.slice a2 n2 c2) S0)) from by
  have M0:Ms w w.heap.size (.slice none 0 0) (.slice none 0 0) [(w.heap.size,zeC)] [(.slice none 0 0,([]:List Dp.Fl))] [(.slice none 0 0,([]:List Rt.Sg))] w0:=⟨fun p hp=>by rw [List.mem_singleton] at hp;subst hp;exact ⟨Nat.le_refl _,R0.out⟩,fun p hp=>by rw [List.mem_singleton] at hp;subst hp;exact ⟨IsL.nil _ _ _,fun _ _=>Sep.nil _ _ _,fun _ _ _ _=>Sep.nil _ _ _⟩,fun p hp=>by rw [List.mem_singleton] at hp;subst hp;exact ⟨IsL.nil _ _ _,fun _ _=>Sep.nil _ _ _,fun _ _ _ _=>Sep.nil _ _ _⟩,RB.out.size,RB.out⟩;have M1:=(M0.call2 mcs mcs ks).alloc #[.slice a1 n1 c1,.int .i64 S0.d.c,.bool S0.d.a,.int .i64 S0.d.l,.bool S0.d.x,.int .i64 S0.v,.slice a2 n2 c2,.int .i64 S0.x,.int .i64 S0.s,.int .i64 S0.z,.int .u32 S0.c] 30
  exact ⟨_,_,_,_,_,_,M1.sub (fun _ h=>h) (fun p hp=>by rw [List.mem_singleton] at hp;rw [hp];exact mcs) (fun p hp=>by rw [List.mem_singleton] at hp;rw [hp];exact mcs)⟩)
 have htt:w.heap.size<w1.heap.size:=Nat.lt_of_lt_of_le (Array.getElem?_eq_some_iff.1 R0.out).1 ks.w.size;clear ks R0 RB CQ;unfold zag;unfold stC at P1;dsimp only;go_upto_region 2 with (fail);generalize w1.alloc _=W1 at P1 ⊢;generalize w1.heap.size=t at P1 htt ⊢
 by_cases h40:40<pn
 case pos=>
  have hi:(40:Int)<(pn:Int):=by omega
  obtain ⟨a,n,c,a',n',c',M⟩:=P1.out;have HM:=zid M;obtain ⟨⟨k0,k1,k2,k3,k4⟩,k5,k6,k7,k8,k9,k10⟩:=zab (M.at_ (t:=t) mcs);obtain ⟨⟨q0,q1,q2,q3,q4⟩,q5,q6,q7,q8,q9,q10⟩:=zab (M.at_ (t:=w.heap.size) (mcm mcs));have qf:=zah (M.at_ (t:=w.heap.size) (mcm mcs));have HNO:=zid (show ¬Ok13 l from fun h=>by have:=h.1;have:=HLN.out;omega);clear M P1 h40 HOK HG HL HLN HP0;go_wp2_with fail;obtain ⟨Z,hZ,Z1⟩:=HM.out.lay11 (t:=w.heap.size) (cs':=[(w.heap.size,stC (.slice a n c) (.slice a' n' c') S0)]) (mcm mcs) (.slice a n c) (.int .i64 S0.d.c) (.bool S0.d.a) (.int .i64 S0.d.l) (.bool S0.d.x) (.int .i64 S0.v) (.slice a' n' c') (.int .i64 S0.x) (.int .i64 S0.s) (.int .i64 S0.z) (.int .u32 S0.c) (fun p hp=> .inl (List.mem_singleton.1 hp));rw [hZ];obtain ⟨⟨z0,z1,z2,z3,z4⟩,z5,z6,z7,z8,z9,z10⟩:=zab (Z1.at_ (t:=w.heap.size) mcs);refine bodyPost_ret (v:= .tuple #[.agg #[.slice a n c,.int .i64 S0.d.c,.bool S0.d.a,.int .i64 S0.d.l,.bool S0.d.x,.int .i64 S0.v,.slice a' n' c',.int .i64 S0.x,.int .i64 S0.s,.int .i64 S0.z,.int .u32 S0.c],.bool false]) (by simp [results,Tryz.results37,go_sem,z0,z1,z2,z3,z4,z5,z6,z7,z8,z9,z10]) rfl ?_;exact ⟨_,_,_,_,_,_,S0,false,rfl,Z1.w,fun h=>(by cases h),fun h=>absurd h HNO.out⟩
 case neg=>
 have hp40:pn<=40:=by omega
 have hi:¬(40:Int)<(pn:Int):=by omega
 have P2:=zid (show Pr w t (Lg.playL q l 0) W1 from by rw [HP0.out];exact P1.out);clear P1 h40 hlm HP0;go_wp2_with fail
 go_loopw [8] (fun i wr=>∃k:Nat,k<=pn/\i= .int .i64 k/\Hid (Pr w t (Lg.playL q l k) wr)) (fun i _=>pn-(intOf i).toNat)
 case atStart=>exact ⟨0,Nat.zero_le _,rfl,P2⟩
 case round=>
  clear P2 hi;obtain ⟨k,hk,rfl,HP⟩:=hrel
  by_cases hlt:k<pn
  · obtain ⟨ab,ao,rfl,c0,c1,c2,c3⟩:=pa_at (HL.out.keep HP.out.w) hlt
    have hab:=block_lt_of_cell c0
    have hGk:=HG.out k (by omega);have hac:PaB (l.getD k paz):=HOK.out _ (by rw [zao (by rw [<-HLN.out];exact hlt)];exact List.getElem_mem _);have HS:=zid (show Lg.playL q l (k+1)=Lg.playA q k (Lg.playL q l k) (l.getD k paz) from Lg.playL_succ q l k);have HMEM:=zid (show l.getD k paz∈l from by rw [zao (by rw [<-HLN.out];exact hlt)];exact List.getElem_mem _);obtain ⟨S,hS⟩:∃S,Lg.playL q l k=S:=⟨_,rfl⟩;rw [hS] at HP hGk HS;have HSS:=zid hS;generalize l.getD k paz=ac at*;have HAC:=zid hac;have hdz:ac.d.size<=9223372036854775807:=hac.2.2.2;have HGK:=zid hGk;clear hS hac hGk;have HNO:=zid (show 64<ac.d.size->¬Ok13 l from fun hd h=>by have:=h.2 ac HMEM.out;omega)
    by_cases hd:64<ac.d.size
    case pos=>
     have hdi:(64:Int)<(ac.d.size:Int):=by omega
     replace HNO:=zid (HNO.out hd);obtain ⟨a,n,c,a',n',c',M⟩:=HP.out;have HM:=zid M;obtain ⟨⟨k0,k1,k2,k3,k4⟩,k5,k6,k7,k8,k9,k10⟩:=zab (M.at_ (t:=t) mcs);obtain ⟨⟨q0,q1,q2,q3,q4⟩,q5,q6,q7,q8,q9,q10⟩:=zab (M.at_ (t:=w.heap.size) (mcm mcs));have qf:=zah (M.at_ (t:=w.heap.size) (mcm mcs));clear M HP hd;go_wp2_with fail;obtain ⟨Z,hZ,Z1⟩:=HM.out.lay11 (t:=w.heap.size) (cs':=[(w.heap.size,stC (.slice a n c) (.slice a' n' c') S)]) (mcm mcs) (.slice a n c) (.int .i64 S.d.c) (.bool S.d.a) (.int .i64 S.d.l) (.bool S.d.x) (.int .i64 S.v) (.slice a' n' c') (.int .i64 S.x) (.int .i64 S.s) (.int .i64 S.z) (.int .u32 S.c) (fun p hp=> .inl (List.mem_singleton.1 hp));rw [hZ];obtain ⟨⟨z0,z1,z2,z3,z4⟩,z5,z6,z7,z8,z9,z10⟩:=zab (Z1.at_ (t:=w.heap.size) mcs);refine bodyPost_ret (v:= .tuple #[.agg #[.slice a n c,.int .i64 S.d.c,.bool S.d.a,.int .i64 S.d.l,.bool S.d.x,.int .i64 S.v,.slice a' n' c',.int .i64 S.x,.int .i64 S.s,.int .i64 S.z,.int .u32 S.c],.bool false]) (by simp [results,Tryz.results37,go_sem,z0,z1,z2,z3,z4,z5,z6,z7,z8,z9,z10]) rfl ?_;exact ⟨_,_,_,_,_,_,S,false,rfl,Z1.w,fun h=>(by cases h),fun h=>absurd h HNO.out⟩
    case neg=>
    have hdi:¬(64:Int)<(ac.d.size:Int):=by omega
    clear hd HNO HMEM;obtain ⟨a,n,c,a',n',c',M⟩:=HP.out;have HM:=zid M;have hne:=HGK.out.ne;have hstb:=HGK.out.stb hq.2 (by omega) (by omega);have hbd:=HGK.out.d;have hvv:=HGK.out.v
    by_cases hk1:ac.k=1
    case pos=>
     have e1:(ac.k==1)=true:=by simpa using hk1
     have SY:=fun (W:World) (h1:IsL FL W (.slice a n c) S.d.f) (h2:IsL Rts.SL W (.slice a' n' c') S.g)=>zec a a' n c n' c' S W _ h1 h2 hne hstb hbd (by omega)
     have HT:Lg.playA q k S ac=(zap S).1:=by unfold Lg.playA;rw [if_pos hk1]
     obtain ⟨⟨T,E⟩,hT⟩:∃R,zap S=R:=⟨_,rfl⟩;rw [hT] at SY HT;replace HS:=zid (HS.out.trans HT);unfold zag at SY;replace SY:=zid SY;obtain ⟨⟨k0,k1,k2,k3,k4⟩,k5,k6,k7,k8,k9,k10⟩:=zab (M.at_ (t:=t) mcs);clear M HP hT HT hk1 hne hstb hbd hvv;go_wp2_with fail;refine (SY.out _ (HM.out.fl mcs) (HM.out.sl mcs)).mono ?_;rintro e w5 ⟨b5,n5,d5,b6,n6,d6,rfl,ks⟩;have LY:=zid (zk2 htt HM.out ks);have kf:=zah (hkeep (HM.out.at_ (t:=t) mcs) ks.w);have kk:=zab (hkeep (HM.out.at_ (t:=t) mcs) ks.w);clear k0 k1 k2 k3 k4 k5 k6 k7 k8 k9 k10 ks SY;obtain ⟨⟨k0,k1,k2,k3,k4⟩,k5,k6,k7,k8,k9,k10⟩:=kk;unfold zag;go_upto_region 6 with (fail);obtain ⟨Z,hZ,PZ⟩:=LY.out;rw [hZ];have HPZ:=zid PZ;clear hZ PZ LY k0 k1 k2 k3 k4 k5 k6 k7 k8 k9 k10 kf;go_wp2_with fail
     go_roundw
     case rel=>exact ⟨k+1,by omega,by go_num,zid (by rw [HS.out];exact HPZ.out)⟩
     case measure=>simp [intOf];omega
    case neg=>
    have e1:(ac.k==1)=false:=by simpa using hk1
    by_cases hk2:ac.k=2
    case pos=>
     have e2:(ac.k==2)=true:=by simpa using hk2
     have hpk:=Lg.pickN_is S.g ac.n ac.m;have hpl:=hpk.lt.2 (List.length_pos_iff.2 hne)
     have hw:fewP (Lg.stateT S (Lg.trimF S (Lg.pickN S.g ac.n ac.m)))=true/\(Lg.trimB S (Lg.pickN S.g ac.n ac.m)).length<=3000:=by
      obtain ⟨F,s0,rs,hL,hl⟩:=HGK.out.log;exact zg1 hL (by omega) hpl
     have TR:=fun (W:World) (h1:IsL FL W (.slice a n c) S.d.f) (h2:IsL Rts.SL W (.slice a' n' c') S.g)=>zhL a a' n c n' c' S ac.n ac.m (Lg.pickN S.g ac.n ac.m) W _ h1 h2 hne hstb hbd (by omega) (by omega) (HGK.out.may hq.2 (by omega)) hpk hw.1 hw.2
     have HT:Lg.playA q k S ac=(Lg.trimK S (Lg.pickN S.g ac.n ac.m)).1:=by unfold Lg.playA;rw [if_neg hk1,if_pos hk2];rfl
     obtain ⟨⟨T,E⟩,hT⟩:∃R,Lg.trimK S (Lg.pickN S.g ac.n ac.m)=R:=⟨_,rfl⟩;rw [hT] at TR HT;replace HS:=zid (HS.out.trans HT);unfold zag at TR;replace TR:=zid TR;clear M HP hT HT hk1 hk2 hne hstb hbd hvv hpk hpl hw;go_upto_region 14 with (fail);have PD:=zid (HM.out.keep (W':=wr.drew) (Below.refl _ _).drew);obtain ⟨⟨k0,k1,k2,k3,k4⟩,k5,k6,k7,k8,k9,k10⟩:=zab (PD.out.at_ (t:=t) mcs)
     replace c0:=show wr.drew.cell? ⟨ab,ao+k*4,none⟩=_ from c0
     replace c1:=show wr.drew.cell? ⟨ab,ao+k*4+1,none⟩=_ from c1
     replace c2:=show wr.drew.cell? ⟨ab,ao+k*4+2,none⟩=_ from c2
     replace c3:=show wr.drew.cell? ⟨ab,ao+k*4+3,none⟩=_ from c3
     go_region_with (first | (go_at_call 70;refine (TR.out _ (PD.out.fl mcs) (PD.out.sl mcs)).mono ?_;rintro e w5 ⟨b5,n5,d5,b6,n6,d6,rfl,ks⟩;have LY:=zid (zk2 htt PD.out ks);have mf:=zah (hkeep (PD.out.at_ (t:=t) mcs) ks.w);have mk:=zab (hkeep (PD.out.at_ (t:=t) mcs) ks.w);clear ks;obtain ⟨⟨m0,m1,m2,m3,m4⟩,m5,m6,m7,m8,m9,m10⟩:=mk;unfold zag))
     all_goals
      go_upto_region 6 with (fail)
      obtain ⟨Z,hZ,PZ⟩:=LY.out;rw [hZ];have HPZ:=zid PZ;clear hZ PZ LY k0 k1 k2 k3 k4 k5 k6 k7 k8 k9 k10 m0 m1 m2 m3 m4 m5 m6 m7 m8 m9 m10 mf;go_wp2_with fail
      go_roundw
      case rel=>exact ⟨k+1,by omega,by go_num,zid (by rw [HS.out];exact HPZ.out)⟩
      case measure=>simp [intOf];omega
    case neg=>
    have e2:(ac.k==2)=false:=by simpa using hk2
    by_cases hk3:ac.k=3
    case pos=>
     have e3:(ac.k==3)=true:=by simpa using hk3
     have AR:=fun (W:World) (h1:IsL FL W (.slice a n c) S.d.f)=>Dsk.rarm_val (.slice a n c) S.d ac.n W h1
     have HT:Lg.playA q k S ac={S with d:=Dp.arm S.d ac.n}:=by unfold Lg.playA;rw [if_neg hk1,if_neg hk2,if_pos hk3]
     replace HS:=zid (HS.out.trans HT);unfold zac at AR;replace AR:=zid AR;clear M HP HT hk1 hk2 hk3 hne hstb hbd hvv;go_upto_region 16 with (fail);have PD:=zid (HM.out.keep (W':=wr.drew) (Below.refl _ _).drew);obtain ⟨⟨k0,k1,k2,k3,k4⟩,k5,k6,k7,k8,k9,k10⟩:=zab (PD.out.at_ (t:=t) mcs)
     replace c0:=show wr.drew.cell? ⟨ab,ao+k*4,none⟩=_ from c0
     replace c1:=show wr.drew.cell? ⟨ab,ao+k*4+1,none⟩=_ from c1
     go_region_with (first | (go_at_call 14;refine (AR.out _ (PD.out.fl mcs)).mono ?_;rintro e w5 ⟨rfl,b5⟩;have P5:=zid (PD.out.keep b5);have mf:=zah (P5.out.at_ (t:=t) mcs);have mk:=zab (P5.out.at_ (t:=t) mcs);clear b5;obtain ⟨⟨m0,m1,m2,m3,m4⟩,m5,m6,m7,m8,m9,m10⟩:=mk))
     all_goals
      go_upto_region 6 with (fail)
      obtain ⟨Z,hZ,MZ⟩:=P5.out.layD (t:=t) (cs':=[(t,stC (.slice a n c) (.slice a' n' c') {S with d:=Dp.arm S.d ac.n}),(w.heap.size,zeC)]) mcs (.slice a n c) (.int .i64 (Dp.arm S.d ac.n).c) (.bool (Dp.arm S.d ac.n).a) (.int .i64 (Dp.arm S.d ac.n).l) (.bool (Dp.arm S.d ac.n).x) (tw (by show w.heap.size≠t;omega))
      rw [hZ]
      have HPZ:=zid (show Pr w t {S with d:=Dp.arm S.d ac.n} Z from ⟨_,_,_,_,_,_,MZ⟩)
      clear hZ MZ P5 k0 k1 k2 k3 k4 k5 k6 k7 k8 k9 k10 m0 m1 m2 m3 m4 m5 m6 m7 m8 m9 m10 mf;go_wp2_with fail
      go_roundw
      case rel=>exact ⟨k+1,by omega,by go_num,zid (by rw [HS.out];exact HPZ.out)⟩
      case measure=>simp [intOf];omega
    case neg=>
    have e3:(ac.k==3)=false:=by simpa using hk3
    by_cases hk4:ac.k=4
    case pos=>
     have e4:(ac.k==4)=true:=by simpa using hk4
     have AR:=fun (W:World) (h1:IsL FL W (.slice a n c) S.d.f)=>Dsk.rlimit_val (.slice a n c) S.d ac.n W h1
     have HT:Lg.playA q k S ac={S with d:=Dp.limit S.d ac.n}:=by unfold Lg.playA;rw [if_neg hk1,if_neg hk2,if_neg hk3,if_pos hk4]
     replace HS:=zid (HS.out.trans HT);unfold zac at AR;replace AR:=zid AR;clear M HP HT hk1 hk2 hk3 hk4 hne hstb hbd hvv;go_upto_region 18 with (fail);have PD:=zid (HM.out.keep (W':=wr.drew) (Below.refl _ _).drew);obtain ⟨⟨k0,k1,k2,k3,k4⟩,k5,k6,k7,k8,k9,k10⟩:=zab (PD.out.at_ (t:=t) mcs)
     replace c0:=show wr.drew.cell? ⟨ab,ao+k*4,none⟩=_ from c0
     replace c1:=show wr.drew.cell? ⟨ab,ao+k*4+1,none⟩=_ from c1
     go_region_with (first | (go_at_call 71;refine (AR.out _ (PD.out.fl mcs)).mono ?_;rintro e w5 ⟨rfl,b5⟩;have P5:=zid (PD.out.keep b5);have mf:=zah (P5.out.at_ (t:=t) mcs);have mk:=zab (P5.out.at_ (t:=t) mcs);clear b5;obtain ⟨⟨m0,m1,m2,m3,m4⟩,m5,m6,m7,m8,m9,m10⟩:=mk))
     all_goals
      go_upto_region 6 with (fail)
      obtain ⟨Z,hZ,MZ⟩:=P5.out.layD (t:=t) (cs':=[(t,stC (.slice a n c) (.slice a' n' c') {S with d:=Dp.limit S.d ac.n}),(w.heap.size,zeC)]) mcs (.slice a n c) (.int .i64 (Dp.limit S.d ac.n).c) (.bool (Dp.limit S.d ac.n).a) (.int .i64 (Dp.limit S.d ac.n).l) (.bool (Dp.limit S.d ac.n).x) (tw (by show w.heap.size≠t;omega))
      rw [hZ]
      have HPZ:=zid (show Pr w t {S with d:=Dp.limit S.d ac.n} Z from ⟨_,_,_,_,_,_,MZ⟩)
      clear hZ MZ P5 k0 k1 k2 k3 k4 k5 k6 k7 k8 k9 k10 m0 m1 m2 m3 m4 m5 m6 m7 m8 m9 m10 mf;go_wp2_with fail
      go_roundw
      case rel=>exact ⟨k+1,by omega,by go_num,zid (by rw [HS.out];exact HPZ.out)⟩
      case measure=>simp [intOf];omega
    case neg=>
     have e4:(ac.k==4)=false:=by simpa using hk4
     have hxb:=hstb.x;have AP:=fun (W:World) (h1:IsL FL W (.slice a n c) S.d.f) (h2:IsL Rts.SL W (.slice a' n' c') S.g)=>zdC a a' n c n' c' S q ⟨S.x,k,ac.d⟩ W _ h1 h2 hne hstb hbd (by omega) (by omega) ⟨by show _<=S.x;omega,by show S.x<=_;omega,by show _<=(k:Int);omega,by show (k:Int)<=_;omega,hdz⟩
     have HT:Lg.playA q k S ac=(So.append S q ⟨S.x,k,ac.d⟩).1:=by unfold Lg.playA;rw [if_neg hk1,if_neg hk2,if_neg hk3,if_neg hk4]
     obtain ⟨⟨T,E⟩,hT⟩:∃R,So.append S q ⟨S.x,k,ac.d⟩=R:=⟨_,rfl⟩;rw [hT] at AP HT;replace HS:=zid (HS.out.trans HT);unfold zag za3 at AP;dsimp only at AP;replace AP:=zid AP;clear M HP hT HT hk1 hk2 hk3 hk4 hne hstb hbd hvv hxb;go_upto_region 10 with (fail);have PD:=zid (HM.out.keep (W':=wr.drew) (Below.refl _ _).drew);obtain ⟨⟨k0,k1,k2,k3,k4⟩,k5,k6,k7,k8,k9,k10⟩:=zab (PD.out.at_ (t:=t) mcs)
     replace c0:=show wr.drew.cell? ⟨ab,ao+k*4,none⟩=_ from c0
     replace c1:=show wr.drew.cell? ⟨ab,ao+k*4+1,none⟩=_ from c1
     replace c2:=show wr.drew.cell? ⟨ab,ao+k*4+2,none⟩=_ from c2
     replace c3:=show wr.drew.cell? ⟨ab,ao+k*4+3,none⟩=_ from c3
     go_region_with (first | (go_at_call 21;refine (AP.out _ (PD.out.fl mcs) (PD.out.sl mcs)).mono ?_;rintro e w5 ⟨b5,n5,d5,b6,n6,d6,rfl,ks⟩;have LY:=zid (zk2 htt PD.out ks);have mf:=zah (hkeep (PD.out.at_ (t:=t) mcs) ks.w);have mk:=zab (hkeep (PD.out.at_ (t:=t) mcs) ks.w);clear ks;obtain ⟨⟨m0,m1,m2,m3,m4⟩,m5,m6,m7,m8,m9,m10⟩:=mk;unfold zag))
     all_goals
      go_upto_region 6 with (fail)
      obtain ⟨Z,hZ,PZ⟩:=LY.out;rw [hZ];have HPZ:=zid PZ;clear hZ PZ LY k0 k1 k2 k3 k4 k5 k6 k7 k8 k9 k10 m0 m1 m2 m3 m4 m5 m6 m7 m8 m9 m10 mf;go_wp2_with fail
      go_roundw
      case rel=>exact ⟨k+1,by omega,by go_num,zid (by rw [HS.out];exact HPZ.out)⟩
      case measure=>simp [intOf];omega
  · obtain rfl:k=pn:=by omega
    have HLE:=zid (show Lg.playL q l k=Lg.playL q l l.length by rw [<-HLN.out])
    obtain ⟨S,hS⟩:∃S,Lg.playL q l k=S:=⟨_,rfl⟩;rw [hS] at HP HLE;obtain ⟨a,n,c,a',n',c',M⟩:=HP.out;have HM:=zid M;obtain ⟨⟨k0,k1,k2,k3,k4⟩,k5,k6,k7,k8,k9,k10⟩:=zab (M.at_ (t:=t) mcs);obtain ⟨⟨q0,q1,q2,q3,q4⟩,q5,q6,q7,q8,q9,q10⟩:=zab (M.at_ (t:=w.heap.size) (mcm mcs));have qf:=zah (M.at_ (t:=w.heap.size) (mcm mcs));clear M HP hS;go_wp2_with fail;obtain ⟨Z,hZ,Z1⟩:=HM.out.lay11 (t:=w.heap.size) (cs':=[(w.heap.size,stC (.slice a n c) (.slice a' n' c') S)]) (mcm mcs) (.slice a n c) (.int .i64 S.d.c) (.bool S.d.a) (.int .i64 S.d.l) (.bool S.d.x) (.int .i64 S.v) (.slice a' n' c') (.int .i64 S.x) (.int .i64 S.s) (.int .i64 S.z) (.int .u32 S.c) (fun p hp=> .inl (List.mem_singleton.1 hp));rw [hZ];obtain ⟨⟨z0,z1,z2,z3,z4⟩,z5,z6,z7,z8,z9,z10⟩:=zab (Z1.at_ (t:=w.heap.size) mcs);refine bodyPost_ret (v:= .tuple #[.agg #[.slice a n c,.int .i64 S.d.c,.bool S.d.a,.int .i64 S.d.l,.bool S.d.x,.int .i64 S.v,.slice a' n' c',.int .i64 S.x,.int .i64 S.s,.int .i64 S.z,.int .u32 S.c],.bool true]) (by simp [results,Tryz.results37,go_sem,z0,z1,z2,z3,z4,z5,z6,z7,z8,z9,z10]) rfl ?_;exact ⟨_,_,_,_,_,_,S,true,rfl,Z1.w,fun _=>⟨by rw [<-HLN.out];exact hp40,HLE.out,Z1.sts mcs mcs⟩,fun _=>rfl⟩
end Trm
namespace Dsk
open Go.RowKit Dp
theorem zkH (v1 v2:Value) (D:Dk) (w:World) (h1:IsL FL w v1 D.f) (h2:IsL FL w v2 D.f):
 Calls Tryz.prog 36 #[zac v1 D,zac v2 D] w fun e w'=>e= .returned (.bool true)/\Below w.heap.size w w':=by
 obtain ⟨fa,fn,fc,rfl⟩:∃a n c,v1= .slice a n c:=by obtain ⟨a,c,h,_⟩:=h1;exact ⟨a,_,c,h⟩
 obtain ⟨ga,gn,gc,rfl⟩:∃a n c,v2= .slice a n c:=by obtain ⟨a,c,h,_⟩:=h2;exact ⟨a,_,c,h⟩
 obtain rfl:gn=fn:=by rw [h1.len.1,h2.len.1]
 have hl:gn<=9223372036854775807:=by have:=h1.len;unfold maxLen at this;omega
 have H1:=zid h1;have H2:=zid h2;clear h1 h2;obtain ⟨fl,dc,da,dl,dx⟩:=D;unfold zac;dsimp only at*;obtain ⟨g0,g1,gb,gs⟩:=zaR w #[.slice fa gn fc,.int .i64 dc,.bool da,.int .i64 dl,.bool dx] #[.slice ga gn gc,.int .i64 dc,.bool da,.int .i64 dl,.bool dx] 24 24;obtain ⟨p0,p1,p2,p3,p4⟩:=zaa g0;obtain ⟨q0,q1,q2,q3,q4⟩:=zaa g1;have GB:=zid gb;clear g0 g1 gb gs
 cases da
 all_goals cases dx
 all_goals
  go_enter Tryz.func36,Tryz.ntmps36
  go_wp2_with fail;generalize World.alloc (World.alloc w _) _=w0 at p0 p1 p2 p3 p4 q0 q1 q2 q3 q4 GB ⊢
  go_loopw [5] (fun i wr=>∃k n:Nat,k<=gn/\i= .int .i64 k/\wr=w0.drewN n) (fun i _=>gn-(intOf i).toNat)
  case atStart=>exact ⟨0,0,Nat.zero_le _,rfl,rfl⟩
  case round=>
   obtain ⟨k,n,hk,rfl,rfl⟩:=hrel
   by_cases hlt:k<gn
   · obtain ⟨b,off,rfl,c0,c1,c2⟩:=zb0 (H1.out.keep GB.out) hlt
     obtain ⟨b',off',rfl,d0,d1,d2⟩:=zb0 (H2.out.keep GB.out) hlt
     generalize fl.getD k zero=f at*;go_wp2_with fail
     go_quiet (fail)
     go_wp2_with fail
     go_roundw
     case rel=>exact ⟨k+1,_,by omega,by go_num,rfl⟩
     case measure=>simp [intOf];omega
   · go_wp2_with fail
     go_ret
     exact ⟨rfl,GB.out.trans ((zad n).mono GB.out.size)⟩
end Dsk
end Go.Proofs.YtooipogbmfkeeaaGreat

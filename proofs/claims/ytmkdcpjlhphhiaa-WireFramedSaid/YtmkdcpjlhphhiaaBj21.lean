/-
  Parts of what the laws of this seat stand on:Law16B,Law16F.
-/
import Derived.Test.YtmkdcpjlhphhiaaBj1
import Derived.Laws.BitsAllLaws
import Derived.Test.YtmkdcpjlhphhiaaBj10
import Derived.Test.YtmkdcpjlhphhiaaBj13
import Derived.Test.YtmkdcpjlhphhiaaBj17
import Derived.Test.YtmkdcpjlhphhiaaBj19
set_option maxRecDepth 100000
set_option maxHeartbeats 6400000
namespace Go.Proofs.Ytmkdcpjlhphhiaa
namespace Wr
open Go.RowKit Qm Wq Mfs
theorem zet (c:UInt8) {x:Nat} (hx:x<256):(bits .xor .u8 (c.toNat:Int) (x:Int)=((UInt8.ofNat (c.toNat^^^x)).toNat:Int))/\(UInt8.ofNat (c.toNat^^^x)).toNat=c.toNat^^^x:=by
 have hc:=c.toNat_lt;have h:c.toNat^^^x<2^8:=Nat.xor_lt_two_pow (show c.toNat<2^8 from by omega) (show x<2^8 from hx)
 have e:(UInt8.ofNat (c.toNat^^^x)).toNat=c.toNat^^^x:=by
  rw [UInt8.toNat_ofNat'];exact Nat.mod_eq_of_lt h
 refine ⟨?_,e⟩;rw [e];exact u8_xor_nat c.toNat x (by omega) hx
theorem zeA {L ct:Nat} (h1:12<=L) (h2:L<=6000):∃K:Nat,L<=K+7/\K<L/\wrap64 ((L:Int)-1-(ct:Int)%min (7:Int) (L:Int))=(K:Int)/\(K:Int)<(L:Int):=by
 have hm:min (7:Int) (L:Int)=7:=by omega
 refine ⟨L-1-ct%7,by omega,by omega,?_,by omega⟩;rw [hm];clear hm;unfold wrap64;omega
theorem zdW {m:Ms} (h:Wq.Ok m) {K x:Nat} {c:UInt8} (hK1:(Fr.fr (Wq.body m)).length<=K+7) (hK2:K<(Fr.fr (Wq.body m)).length) (hc:c.toNat=(Fr.fr (Wq.body m))[K].toNat^^^x) (h0:0<x) (hx:x<256):
 getW ((Fr.fr (Wq.body m)).set K c)=(Wq.zero,4):=by
 have hb:=Wq.body_len h;have hl:=Fr.fr_len (Wq.body m);exact zb6 (e:=4) (Fr.nx_turned (Wq.body m) K x (Wq.body_may h) (by omega) hK2 c hc h0 hx) (by decide)
theorem zeZ (va:Option Addr) (vn vc:Nat) (m:Ms) (ct tu:Int) (w:World) (hv:zae w (.slice va vn vc) m.l) (hf:zaJ m=false):
 Calls Try.prog 5 #[zag (.slice va vn vc) m,.int .u16 ct,.int .u8 tu] w fun e w'=>e= .returned (.bool true)/\Below w.heap.size w w':=by
 have HA:=zid ((Below.refl w.heap.size w).alloc (Nat.le_refl _) (.cells #[.int .i64 m.k,.int .i64 m.f,.int .i64 m.t,.int .i64 m.i,.int .i64 m.p,.int .i64 m.q,.int .i64 m.a,.int .i64 m.wd,.int .i64 m.h,.int .i64 m.wt,.int .i64 m.x,.int .i64 m.z,.int .u32 m.s,.string m.d,.slice va vn vc] 25));have SMA:=zat va vn vc m _ (zab hv HA.out);have g0:=heap_alloc_new w (.cells #[.int .i64 m.k,.int .i64 m.f,.int .i64 m.t,.int .i64 m.i,.int .i64 m.p,.int .i64 m.q,.int .i64 m.a,.int .i64 m.wd,.int .i64 m.h,.int .i64 m.wt,.int .i64 m.x,.int .i64 m.z,.int .u32 m.s,.string m.d,.slice va vn vc] 25);have AW:=zid zbb;unfold zag at*;rw [hf] at SMA;replace SMA:=zid SMA;clear hf hv
 go_enter Try.func5,Try.ntmps5
 go_wp2_with (refine zas _ _ rfl rfl rfl (by assumption) rfl ?_)
 refine SMA.out.mono ?_;rintro e w1 ⟨rfl,b1⟩;have B1:=zid (HA.out.trans (b1.mono HA.out.size));clear b1;go_wp2_with fail;refine (AW.out _).mono ?_;rintro e w2 ⟨rfl,b2⟩;have B2:=zid (B1.out.trans (b2.mono B1.out.size));clear b2;go_wp2_with fail;go_ret;exact ⟨rfl,B2.out⟩
theorem zfR (va:Option Addr) (vn vc:Nat) (m:Ms) (ct tu:Int) (w:World) (hv:zae w (.slice va vn vc) m.l) (hB:MsB m) (hf:zaJ m=true) (h:¬Wq.Ok m):
 Calls Try.prog 5 #[zag (.slice va vn vc) m,.int .u16 ct,.int .u8 tu] w fun e w'=>e= .returned (.bool true)/\Below w.heap.size w w':=by
 have HA:=zid ((Below.refl w.heap.size w).alloc (Nat.le_refl _) (.cells #[.int .i64 m.k,.int .i64 m.f,.int .i64 m.t,.int .i64 m.i,.int .i64 m.p,.int .i64 m.q,.int .i64 m.a,.int .i64 m.wd,.int .i64 m.h,.int .i64 m.wt,.int .i64 m.x,.int .i64 m.z,.int .u32 m.s,.string m.d,.slice va vn vc] 25));have G0:=zid (heap_alloc_new w (.cells #[.int .i64 m.k,.int .i64 m.f,.int .i64 m.t,.int .i64 m.i,.int .i64 m.p,.int .i64 m.q,.int .i64 m.a,.int .i64 m.wd,.int .i64 m.h,.int .i64 m.wt,.int .i64 m.x,.int .i64 m.z,.int .u32 m.s,.string m.d,.slice va vn vc] 25));have SMA:=zat va vn vc m _ (zab hv HA.out);have AW:=zid zbb;have PT:=fun (W:World) (hb:Below w.heap.size w W)=>zb1 va vn vc m W (zab hv hb) hB;have RT:=fun (W:World) (hb:Below w.heap.size w W)=>zaK va vn vc m false W (zab hv hb) hB ⟨(fun h=>by cases h),fun hk=>absurd hk h⟩;unfold zag zao at PT;unfold zag at RT SMA;rw [zdU h] at PT;rw [hf] at SMA;dsimp only at PT;replace PT:=zid PT;replace RT:=zid RT;replace SMA:=zid SMA;clear hf hv h hB;have g0:=G0.out;unfold zag
 go_enter Try.func5,Try.ntmps5
 go_wp2_with (refine zas _ _ rfl rfl rfl (by assumption) rfl ?_)
 refine SMA.out.mono ?_;rintro e w01 ⟨rfl,b01⟩;have B01:=zid (HA.out.trans (b01.mono HA.out.size));have g01:=(b01.block w.heap.size (Array.getElem?_eq_some_iff.1 G0.out).1).trans G0.out;clear b01 g0 G0
 go_wp2_with (refine zas _ _ rfl rfl rfl (by assumption) rfl ?_)
 refine (PT.out _ B01.out).mono ?_;rintro e w1 ⟨rfl,b1⟩;have B1:=zid (B01.out.trans (b1.mono B01.out.size));have g1:=(b1.block w.heap.size (Array.getElem?_eq_some_iff.1 g01).1).trans g01;clear b1 g01
 go_wp2_with (refine zas _ _ rfl rfl rfl (by assumption) rfl ?_)
 refine (RT.out _ B1.out).mono ?_;rintro e w2 ⟨rfl,b2⟩;have B2:=zid (B1.out.trans (b2.mono B1.out.size));clear b2 g1;go_wp2_with fail;refine (AW.out _).mono ?_;rintro e w3 ⟨rfl,b3⟩;have B3:=zid (B2.out.trans (b3.mono B2.out.size));clear b3;go_wp2_with fail;go_ret;exact ⟨by first | rfl | simp,B3.out⟩
theorem msg_zone (a:Option Addr) (n c:Nat):(#[.int .i64 0,.int .i64 0,.int .i64 0,.int .i64 0,.int .i64 0,.int .i64 0,.int .i64 0,.int .i64 0,.int .i64 0,.int .i64 0,.int .i64 0,.int .i64 0,.int .u32 0,.string ⟨#[]⟩,.slice a n c]:Array Value).all (·.oneCell')=true:=by
 simp [Value.oneCell']
theorem zeY (va:Option Addr) (vn vc:Nat) (m:Ms) (ct tu:Nat) (w:World) (hv:zae w (.slice va vn vc) m.l) (hB:MsB m) (hf:zaJ m=true) (h:Wq.Ok m) (hct:ct<=65535) (htu:tu<256):
 Calls Try.prog 5 #[zag (.slice va vn vc) m,.int .u16 ct,.int .u8 tu] w fun e w'=>e= .returned (.bool true)/\Below w.heap.size w w':=by
 have HA:=zid ((Below.refl w.heap.size w).alloc (Nat.le_refl _) (.cells #[.int .i64 m.k,.int .i64 m.f,.int .i64 m.t,.int .i64 m.i,.int .i64 m.p,.int .i64 m.q,.int .i64 m.a,.int .i64 m.wd,.int .i64 m.h,.int .i64 m.wt,.int .i64 m.x,.int .i64 m.z,.int .u32 m.s,.string m.d,.slice va vn vc] 25));have G0:=zid (heap_alloc_new w (.cells #[.int .i64 m.k,.int .i64 m.f,.int .i64 m.t,.int .i64 m.i,.int .i64 m.p,.int .i64 m.q,.int .i64 m.a,.int .i64 m.wd,.int .i64 m.h,.int .i64 m.wt,.int .i64 m.x,.int .i64 m.z,.int .u32 m.s,.string m.d,.slice va vn vc] 25));have SMA:=zat va vn vc m _ (zab hv HA.out);have AW:=zid zbb;have PT:=fun (W:World) (hb:Below w.heap.size w W)=>zb1 va vn vc m W (zab hv hb) hB;have RT:=fun (W:World) (hb:Below w.heap.size w W)=>zaK va vn vc m true W (zab hv hb) hB ⟨fun _=>h,fun _=>rfl⟩;unfold zag zao at PT;unfold zag at RT SMA;rw [zbs h] at PT;rw [hf] at SMA;dsimp only at PT;have hmay:=Wq.body_may h;have hbl:=Wq.body_len h;obtain ⟨F,hF⟩:∃F,Fr.fr (Wq.body m)=F:=⟨_,rfl⟩
 have hFl:F.length=(Vp.put (Wq.body m).length).length+4+(Wq.body m).length:=by rw [<-hF];exact Fr.fr_len _
 have hz1:12<=F.length/\F.length<=6000:=by have:=zcn (Wq.body m).length;have:=Vp.put_len_pos (Wq.body m).length;omega
 have GY:getW F=(m,0):=by rw [<-hF];exact zc3 h
 have GK:∀k,k<F.length->getW (F.take k)=(Wq.zero,2):=by rw [<-hF];exact fun k hk=>getW_cut h hk
 have GX:∀(K:Nat) (c:UInt8) (hK1:F.length<=K+7) (hK2:K<F.length) (_:c.toNat=F[K].toNat^^^tu) (_:0<tu),getW (F.set K c)=(Wq.zero,4):=by
  subst hF;exact fun K c h1 h2 h3 h4=>zdW h h1 h2 h3 h4 htu
 rw [hF] at PT;clear hF hFl hbl hmay;have GT:=fun W:World=>zbp ⟨F.toArray⟩ W (by rw [zai];omega);rw [show (⟨F.toArray⟩:ByteArray).data.toList=F from rfl,GY] at GT
 have GC:=fun (k:Nat) (hk:k<F.length) (W:World)=>(show Calls Try.prog 11 #[.string ((⟨F.toArray⟩:ByteArray).extract 0 k)] W (zap W (Wq.zero,2)) from by
  have e:((⟨F.toArray⟩:ByteArray).extract 0 k).data.toList=F.take k:=by
   have:=zaN (⟨F.toArray⟩:ByteArray) 0 k;rw [this]
   simp
  have:=zbp ((⟨F.toArray⟩:ByteArray).extract 0 k) W (by rw [show ((⟨F.toArray⟩:ByteArray).extract 0 k).size=((⟨F.toArray⟩:ByteArray).extract 0 k).data.toList.length from rfl,e,List.length_take];omega);rw [e,GK k hk] at this
  exact this)
 have HGX:=zid GX;replace PT:=zid PT;replace RT:=zid RT;replace GT:=zid GT;replace GC:=zid GC;replace SMA:=zid SMA;have HV:=zid hv
 have hL:12<=(F.length:Int)/\(F.length:Int)<=6000:=by omega
 have hL1:=hL.1;have hL2:=hL.2
 have hne:((F.length:Int)==0)=false:=by rw [beq_eq_false_iff_ne];omega
 clear hf hv h hB GY GK GX hL;have g0:=G0.out;unfold zag
 go_enter Try.func5,Try.ntmps5
 go_wp2_with (refine zas _ _ rfl rfl rfl (by assumption) rfl ?_)
 refine SMA.out.mono ?_;rintro e w01 ⟨rfl,b01⟩;have B01:=zid (HA.out.trans (b01.mono HA.out.size));have g01:=(b01.block w.heap.size (Array.getElem?_eq_some_iff.1 G0.out).1).trans G0.out;clear b01 g0 G0
 go_wp2_with (refine zas _ _ rfl rfl rfl (by assumption) rfl ?_)
 refine (PT.out _ B01.out).mono ?_;rintro e w1 ⟨rfl,b1⟩;have B1:=zid (B01.out.trans (b1.mono B01.out.size));have g1:=(b1.block w.heap.size (Array.getElem?_eq_some_iff.1 g01).1).trans g01;clear b1 g01
 go_wp2_with (refine zas _ _ rfl rfl rfl (by assumption) rfl ?_)
 refine (RT.out _ B1.out).mono ?_;rintro e w2 ⟨rfl,b2⟩;have B2:=zid (B1.out.trans (b2.mono B1.out.size));have G2:=zid ((b2.block w.heap.size (Array.getElem?_eq_some_iff.1 g1).1).trans g1);clear b2 g1;go_wp2_with fail;refine (GT.out _).mono ?_;rintro e w3 ⟨a,n,c,rfl,hv3,b3⟩;have B3:=zid (B2.out.trans (b3.mono B2.out.size));have G3:=zid ((b3.block w.heap.size (Array.getElem?_eq_some_iff.1 G2.out).1).trans G2.out);have a4:=(Below.refl w3.heap.size w3).alloc (Nat.le_refl _) (.cells #[.int .i64 m.k,.int .i64 m.f,.int .i64 m.t,.int .i64 m.i,.int .i64 m.p,.int .i64 m.q,.int .i64 m.a,.int .i64 m.wd,.int .i64 m.h,.int .i64 m.wt,.int .i64 m.x,.int .i64 m.z,.int .u32 m.s,.string m.d,.slice a n c] 25);have B4:=zid (B3.out.trans (a4.mono B3.out.size));have g4:=(a4.block w.heap.size (Array.getElem?_eq_some_iff.1 G3.out).1).trans G3.out;have y4:=heap_alloc_new w3 (.cells #[.int .i64 m.k,.int .i64 m.f,.int .i64 m.t,.int .i64 m.i,.int .i64 m.p,.int .i64 m.q,.int .i64 m.a,.int .i64 m.wd,.int .i64 m.h,.int .i64 m.wt,.int .i64 m.x,.int .i64 m.z,.int .u32 m.s,.string m.d,.slice a n c] 25);have SM:=zaL va vn vc a n c m m true _ (zab HV.out B4.out) (zab hv3 a4) ⟨fun _=>rfl,fun _=>rfl⟩;unfold zag at SM ⊢;replace SM:=zid SM;clear a4 hv3 b3 G2 G3;dsimp only
 go_wp2_with (first | (refine zas _ _ rfl rfl rfl (by assumption) rfl ?_) | (refine za9 _ _ rfl rfl rfl rfl rfl rfl (zbm _ _ _ _) ?_))
 refine SM.out.mono ?_;rintro e w5 ⟨rfl,b5⟩;have B5:=zid (B4.out.trans (b5.mono B4.out.size));clear b5 g4 y4;obtain ⟨kk,hkk⟩:∃kk,ct%F.length=kk:=⟨_,rfl⟩
 have hk1:kk<F.length:=by rw [<-hkk];exact Nat.mod_lt _ (by omega)
 have hk2:Int.tmod (ct:Int) (F.length:Int)=(kk:Int):=by rw [Int.tmod_eq_emod_of_nonneg (by omega), <-hkk];rfl
 have hk3:IntKind.i64.wrap (kk:Int)=(kk:Int):=IntWalk.i64_in _ ⟨by omega,by omega⟩
 have hk4:(kk:Int)<=(F.length:Int):=by omega
 have GC1:=zid fun W=>GC.out kk hk1 W;clear hkk;go_wp2_with fail;refine (GC1.out _).mono ?_;rintro e w6 ⟨a6,n6,c6,rfl,hv6,b6⟩;have B6:=zid ((B5.out.trans (b6.mono B5.out.size)).alloc (Nat.le_trans B5.out.size b6.size) (.cells #[.int .i64 0,.int .i64 0,.int .i64 0,.int .i64 0,.int .i64 0,.int .i64 0,.int .i64 0,.int .i64 0,.int .i64 0,.int .i64 0,.int .i64 0,.int .i64 0,.int .u32 0,.string ⟨#[]⟩,.slice a6 n6 c6] 25));unfold zag Wq.zero;dsimp only;clear b6 hv6
 go_upto_region 10 with (refine za9 _ _ rfl rfl rfl rfl rfl rfl (msg_zone _ _ _) ?_)
 generalize World.alloc w6 _=w7 at B6 ⊢;obtain ⟨K,hK1,hK2,hq,hi1⟩:=zeA (ct:=ct) hz1.1 hz1.2;replace hq:=zid hq;obtain ⟨cap,W,hcv,hBA,hbW,hlW⟩:=zc6 w7 ⟨F.toArray⟩;rw [zai] at hcv;obtain ⟨hcell,hfr⟩:=hBA K hK2;obtain ⟨hx1,hx2⟩:=zet F[K] htu;have HX2:=zid hx2;have hset:=hBA.set hK2 (UInt8.ofNat (F[K].toNat^^^tu));have HNX:=zid (HGX.out K (UInt8.ofNat (F[K].toNat^^^tu)) hK1 hK2 hx2);have HSET:=zid hset;clear hset hBA hx2 HGX;generalize UInt8.ofNat (F[K].toNat^^^tu)=c at hx1 HNX HSET HX2;generalize F[K]=c0 at hx1 hcell HX2;have hcv2:=HSET.out.conv cap;rw [List.length_set] at hcv2;have C2:=fun W:World=>zbp ⟨(F.set K c).toArray⟩ W (by rw [zai,List.length_set];exact Nat.le_trans hz1.2 (by decide));rw [show (⟨(F.set K c).toArray⟩:ByteArray).data.toList=F.set K c from rfl] at C2;obtain ⟨⟨zm,ze⟩,hZ⟩:∃Z,getW (F.set K c)=Z:=⟨_,rfl⟩
 have HZ:Hid (0<tu->ze=4):=zid fun h=>by have:=HNX.out h;rw [hZ] at this;injection this
 rw [hZ] at C2;have C2:=zid C2;have HW:=zid (hbW.setCell (p:=⟨w7.heap.size,K,none⟩) (Nat.le_refl _) (.int .u8 (c.toNat:Int)));clear hK1 hK2 hZ HNX
 have HTZ:Hid ((tu=0)\/(ze=4/\((tu:Int)==0)=false)):=by
  refine zid ?_
  by_cases h:tu=0
  · exact .inl h
  · exact .inr ⟨HZ.out (Nat.pos_of_ne_zero h),by rw [beq_eq_false_iff_ne];exact fun e=>h (Int.ofNat.inj e)⟩
 go_upto_region 11 with (fail)
 go_cut [14] (fun v wc=>v= .int .i64 (K:Int)/\wc=W)
 case first=>
  clear C2 HW HZ HTZ HSET HX2 hcv hcv2 hcell hfr hx1 hi1 hbW hlW;go_wp2_with fail;go_meet
  case rel=>exact ⟨congrArg (Value.int .i64) hq.out,rfl⟩
 case rest=>
 obtain ⟨rfl,rfl⟩:=hcut;clear hq;go_wp2_with fail;refine (C2.out _).mono ?_;rintro e w8 ⟨a8,n8,c8,rfl,hv8,b8⟩;have B8:=zid (((B6.out.trans (HW.out.mono B6.out.size)).trans (b8.mono (Nat.le_trans B6.out.size HW.out.size))).alloc (Nat.le_trans (Nat.le_trans B6.out.size HW.out.size) b8.size) (.cells #[.int .i64 zm.k,.int .i64 zm.f,.int .i64 zm.t,.int .i64 zm.i,.int .i64 zm.p,.int .i64 zm.q,.int .i64 zm.a,.int .i64 zm.wd,.int .i64 zm.h,.int .i64 zm.wt,.int .i64 zm.x,.int .i64 zm.z,.int .u32 zm.s,.string zm.d,.slice a8 n8 c8] 25));unfold zag;dsimp only;clear b8 hv8;have htz:=HTZ.out
 rcases htz with rfl | ⟨rfl,ht0⟩
 all_goals
  go_wp2_with (refine za9 _ _ rfl rfl rfl rfl rfl rfl (zbm _ _ _ _) ?_)
  refine (AW.out _).mono ?_;rintro e w9 ⟨rfl,b9⟩;have B9:=zid (B8.out.trans (b9.mono B8.out.size));clear b9;go_wp2_with fail;go_ret;exact ⟨by first | rfl | simp,B9.out⟩
theorem back16 (va:Option Addr) (vn vc:Nat) (m:Ms) (ct tu:Int) (w:World) (hv:zae w (.slice va vn vc) m.l) (hB:MsB m) (h0:0<=ct) (h1:ct<=65535) (h2:0<=tu) (h3:tu<256):
 Calls Try.prog 5 #[zag (.slice va vn vc) m,.int .u16 ct,.int .u8 tu] w fun e w'=>e= .returned (.bool true)/\Below w.heap.size w w':=by
 rcases hf:zaJ m with _ | _
 · exact zeZ va vn vc m ct tu w hv hf
 · by_cases h:Wq.Ok m
   · obtain ⟨c,rfl⟩:∃c:Nat,ct=(c:Int):=⟨ct.toNat,by omega⟩
     obtain ⟨u,rfl⟩:∃u:Nat,tu=(u:Int):=⟨tu.toNat,by omega⟩
     exact zeY va vn vc m c u w hv hB hf h (by omega) (by omega)
   · exact zfR va vn vc m ct tu w hv hB hf h
theorem zdX {b t:List UInt8} (hb:Fr.May b.length) (ht:t≠[]):(getW (Fr.fr b++t)).2=3:=by
 have h1:=Fr.nx_fr b t hb;rw [zfH h1];rintro ⟨m,hm,e⟩;have h2:=Fr.nx_fr (Wq.body m) [] (Wq.body_may hm);rw [List.append_nil] at h2;replace h2:=h2.symm.trans ((congrArg Fr.nx e).trans h1)
 injection h2 with _ h2
 injection h2 with h2 _
 have h3:=congrArg List.length e;rw [List.length_append,h2] at h3;exact ht (List.length_eq_zero_iff.1 (by omega))
theorem zbY (s t:ByteArray) (w:World) (hs:s.size<=140737488351232) (h:¬Fr.May s.size\/(Fr.May s.size/\(500<s.size\/(s.size<=500/\100<t.size)))):
 Calls Try.prog 4 #[.string s,.string t] w fun e w'=>e= .returned (.bool true)/\Below w.heap.size w w':=by
 have AW:=zid zbb
 have P:∃(F:ByteArray) (pe:Int),(∀W:World,Calls Try.prog 16 #[.string s] W fun e w'=>e= .returned (.tuple #[.string F,.int .i64 pe])/\Below W.heap.size W w')/\(pe=5\/(pe=0/\((500:Int)<s.size\/(¬(500:Int)<s.size/\(100:Int)<t.size)))):=by
  rcases h with h | ⟨h,h2⟩
  · refine ⟨⟨#[]⟩,5,fun W=>(rfput_no s W (by unfold maxLen;omega) h).mono ?_,.inl rfl⟩
    rintro e w' ⟨rfl,rfl⟩
    exact ⟨rfl,Below.refl _ _⟩
  · exact ⟨_,0,fun W=>zbB s W h,.inr ⟨rfl,by omega⟩⟩
 obtain ⟨F,pe,PT,hc⟩:=P;replace PT:=zid PT;clear h hs
 rcases hc with rfl | ⟨rfl,hf | ⟨hf,hg⟩⟩
 all_goals
  go_enter Try.func4,Try.ntmps4
  go_wp2_with fail;refine (PT.out _).mono ?_;rintro e w1 ⟨rfl,b1⟩;have B1:=zid b1;clear b1;go_wp2_with fail;refine (AW.out _).mono ?_;rintro e w2 ⟨rfl,b2⟩;have B2:=zid (B1.out.trans (b2.mono B1.out.size));clear b2;go_wp2_with fail;go_ret;exact ⟨rfl,B2.out⟩
theorem zc4 (s t:ByteArray) (w:World) (hm:Fr.May s.size) (hs:s.size<=500) (ht:t.size<=100):
 Calls Try.prog 4 #[.string s,.string t] w fun e w'=>e= .returned (.bool true)/\Below w.heap.size w w':=by
 have AW:=zid zbb;have PT:=fun W:World=>zbB s W hm;obtain ⟨F,hF⟩:∃F:ByteArray,(⟨(Fr.fr s.data.toList).toArray⟩:ByteArray)=F:=⟨_,rfl⟩
 have hFl:F.data.toList=Fr.fr s.data.toList:=by rw [<-hF]
 have hFz:F.size<=600:=by
  rw [<-hF,zai,Fr.fr_len];have:=zcn s.data.toList.length;have:s.data.toList.length=s.size:=rfl;omega
 rw [hF] at PT
 have hadd:(F++t).data.toList=Fr.fr s.data.toList++t.data.toList:=by rw [<-hFl];simp
 have hz:(F++t).size<=1000:=by rw [ByteArray.size_append];omega
 have GT:=fun W:World=>zbp (F++t) W (by omega);have RG:=fun W:World=>zdk (F++t) W (by omega)
 have hR:¬t=⟨#[]⟩->(getW (F++t).data.toList).2=3:=fun hne=>by
  rw [hadd];exact zdX hm fun e=>hne (ByteArray.ext (Array.ext' e))
 have s1:¬9223372036854775807<F.size+t.size:=by omega
 generalize getW (F++t).data.toList=R at GT RG hR;obtain ⟨g,er⟩:=R;dsimp only at hR
 have f1:¬(500:Int)<(s.size:Int):=by omega
 have f2:¬(100:Int)<(t.size:Int):=by omega
 replace PT:=zid PT;replace GT:=zid GT;replace RG:=zid RG;clear hm hs ht hF hFl hFz hadd hz
 have hcase:t=⟨#[]⟩\/(er=3/\(t.toList==(⟨#[]⟩:ByteArray).toList)=false/\(t.toList==[])=false):=by
  by_cases h:t=⟨#[]⟩
  · exact .inl h
  · have h2:(t.toList==(⟨#[]⟩:ByteArray).toList)=false:=by
     rw [ByteArray.toList_eq,ByteArray.toList_eq,beq_eq_false_iff_ne];exact fun e=>h (ByteArray.ext (Array.ext' e))
    refine .inr ⟨hR h,h2,?_⟩;rw [ByteArray.toList_eq,beq_eq_false_iff_ne];exact fun e=>h (ByteArray.ext (Array.ext' e))
 clear hR
 rcases hcase with rfl | ⟨rfl,h1,h2⟩
 all_goals
  go_enter Try.func4,Try.ntmps4
  go_wp2_with fail;refine (PT.out _).mono ?_;rintro e w1 ⟨rfl,B1⟩;have B1:=zid B1;go_wp2_with fail;refine (GT.out _).mono ?_;rintro e w3 ⟨xa,xn,xc,rfl,hv3,b3⟩;have B3:=zid (B1.out.trans (b3.mono B1.out.size));have a4:=(Below.refl w3.heap.size w3).alloc (Nat.le_refl _) (.cells #[.int .i64 g.k,.int .i64 g.f,.int .i64 g.t,.int .i64 g.i,.int .i64 g.p,.int .i64 g.q,.int .i64 g.a,.int .i64 g.wd,.int .i64 g.h,.int .i64 g.wt,.int .i64 g.x,.int .i64 g.z,.int .u32 g.s,.string g.d,.slice xa xn xc] 25);have B4:=zid (B3.out.trans (a4.mono B3.out.size));have X4:=zid (heap_alloc_new w3 (.cells #[.int .i64 g.k,.int .i64 g.f,.int .i64 g.t,.int .i64 g.i,.int .i64 g.p,.int .i64 g.q,.int .i64 g.a,.int .i64 g.wd,.int .i64 g.h,.int .i64 g.wt,.int .i64 g.x,.int .i64 g.z,.int .u32 g.s,.string g.d,.slice xa xn xc] 25));have HX4:=zid (zab hv3 a4);clear a4 hv3 b3;unfold zag;dsimp only
  go_wp2_with (refine za9 _ _ rfl rfl rfl rfl rfl rfl (zbm _ _ _ _) ?_)
  obtain ⟨tx,htx⟩:∃tx,w3.heap.size=tx:=⟨_,rfl⟩;rw [htx] at X4 ⊢;generalize w3.alloc (.cells #[.int .i64 g.k,.int .i64 g.f,.int .i64 g.t,.int .i64 g.i,.int .i64 g.p,.int .i64 g.q,.int .i64 g.a,.int .i64 g.wd,.int .i64 g.h,.int .i64 g.wt,.int .i64 g.x,.int .i64 g.z,.int .u32 g.s,.string g.d,.slice xa xn xc] 25)=w4 at*;clear htx;refine (RG.out _).mono ?_;rintro e w5 ⟨ya,yn,yc,rfl,hv5,b5⟩;have B5:=zid (B4.out.trans (b5.mono B4.out.size));have X5:=zid ((b5.block tx (Array.getElem?_eq_some_iff.1 X4.out).1).trans X4.out);have HX5:=zid (zab HX4.out b5);have a6:=(Below.refl w5.heap.size w5).alloc (Nat.le_refl _) (.cells #[.int .i64 g.k,.int .i64 g.f,.int .i64 g.t,.int .i64 g.i,.int .i64 g.p,.int .i64 g.q,.int .i64 g.a,.int .i64 g.wd,.int .i64 g.h,.int .i64 g.wt,.int .i64 g.x,.int .i64 g.z,.int .u32 g.s,.string g.d,.slice ya yn yc] 25);have B6:=zid (B5.out.trans (a6.mono B5.out.size));have X6:=zid ((a6.block tx (Array.getElem?_eq_some_iff.1 X5.out).1).trans X5.out);have Y6:=zid (heap_alloc_new w5 (.cells #[.int .i64 g.k,.int .i64 g.f,.int .i64 g.t,.int .i64 g.i,.int .i64 g.p,.int .i64 g.q,.int .i64 g.a,.int .i64 g.wd,.int .i64 g.h,.int .i64 g.wt,.int .i64 g.x,.int .i64 g.z,.int .u32 g.s,.string g.d,.slice ya yn yc] 25));have HX6:=zid (zab HX5.out a6);have HY6:=zid (zab hv5 a6);clear a6 hv5 b5;unfold zag;dsimp only
  go_wp2_with (refine za9 _ _ rfl rfl rfl rfl rfl rfl (zbm _ _ _ _) ?_)
  obtain ⟨ty,hty⟩:∃ty,w5.heap.size=ty:=⟨_,rfl⟩;rw [hty] at Y6 ⊢;generalize w5.alloc (.cells #[.int .i64 g.k,.int .i64 g.f,.int .i64 g.t,.int .i64 g.i,.int .i64 g.p,.int .i64 g.q,.int .i64 g.a,.int .i64 g.wd,.int .i64 g.h,.int .i64 g.wt,.int .i64 g.x,.int .i64 g.z,.int .u32 g.s,.string g.d,.slice ya yn yc] 25)=w6 at*;clear hty;refine (AW.out _).mono ?_;rintro e w7 ⟨rfl,b7⟩;have B7:=zid (B6.out.trans (b7.mono B6.out.size));have x7:=(b7.block tx (Array.getElem?_eq_some_iff.1 X6.out).1).trans X6.out;have y7:=(b7.block ty (Array.getElem?_eq_some_iff.1 Y6.out).1).trans Y6.out;have SM:=zaL xa xn xc ya yn yc g g true w7 (zab HX6.out b7) (zab HY6.out b7) ⟨fun _=>rfl,fun _=>rfl⟩;unfold zag at SM;replace SM:=zid SM;clear b7
  go_wp2_with (refine zas _ _ rfl rfl rfl (by assumption) rfl ?_)
  refine SM.out.mono ?_;rintro e w8 ⟨rfl,b8⟩;have B8:=zid (B7.out.trans (b8.mono B7.out.size));clear b8 x7 y7;go_wp2_with fail;go_ret;exact ⟨by first | rfl | simp,B8.out⟩
theorem framed16 (s t:ByteArray) (w:World) (hs:s.size<=140737488351232):
 Calls Try.prog 4 #[.string s,.string t] w fun e w'=>e= .returned (.bool true)/\Below w.heap.size w w':=by
 by_cases hm:Fr.May s.size
 · by_cases h:s.size<=500/\t.size<=100
   · exact zc4 s t w hm h.1 h.2
   · exact zbY s t w hs (.inr ⟨hm,by omega⟩)
 · exact zbY s t w hs (.inl hm)
end Wr
end Go.Proofs.Ytmkdcpjlhphhiaa

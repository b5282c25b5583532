/-
  Parts of what the laws of this seat stand on:WirRput,WirCur.
-/
import Derived.Test.YtmkdcpjlhphhiaaBj1
import Derived.BigQuiet
import Derived.Deep.QuietTactic
import Derived.Deep.RegionHeld3
import Derived.Test.YtmkdcpjlhphhiaaBj10
import Derived.Test.YtmkdcpjlhphhiaaBj13
import Derived.Test.YtmkdcpjlhphhiaaBj7
set_option maxRecDepth 100000
set_option maxHeartbeats 6400000
namespace Go.Proofs.Ytmkdcpjlhphhiaa
namespace Wr
open Go.RowKit Qm Wq Mfs
theorem zci (l:List Int) (n:Nat) (cs:Array Value) (hcs:cs=(IL.vals l).toArray) (hn:n=l.length) (hl:l.length<=10) (hok:Nums l) (W:World) (g:Nat) (hg:W.heap.size=g):
 Calls Try.prog 22 #[.slice (some ⟨g,0,none⟩) n n] (W.alloc (.cells cs 3)).drew fun e w'=>e= .returned (.string ⟨(puts l).toArray⟩)/\Below W.heap.size W w':=by
 subst hcs hg;refine (zbW _ n n l _ ((zcs W l n hn (by unfold maxLen;omega) (fun x hx=>?_)).keep (Below.refl _ _).drew) (by omega) hok).mono ?_
 · obtain ⟨i,hi,rfl⟩:=List.getElem_of_mem hx
   have:=hok i hi
   rw [show l.getD i 0=l[i] by simp [List.getD_eq_getElem?_getD,hi]] at this;exact ⟨by omega,this.2⟩
 · rintro e w' ⟨rfl,b⟩
   exact ⟨rfl,((Below.refl _ _).alloc (Nat.le_refl _) _).drew.trans (b.mono (by simp))⟩
theorem rwput_no (va:Option Addr) (vn vc:Nat) (m:Ms) (w:World) (hv:zae w (.slice va vn vc) m.l) (hB:MsB m) (h:¬Ok m):
 Calls Try.prog 10 #[zag (.slice va vn vc) m] w fun e w'=>e= .returned (zao m)/\Below w.heap.size w w':=by
 unfold zao;rw [zdU h];dsimp only;have R:=fun (W:World) (hW:Below w.heap.size w W)=>zaH va vn vc m false W (zab hv hW) hB ⟨(fun h=>by cases h),fun h2=>absurd h2 h⟩;unfold zag at*;replace R:=zid R;clear hv hB h;obtain ⟨k,f,t,i,p,q,a,wd,h,wt,x,z,s,d,l⟩:=m;dsimp only at*;have HA:=zid ((Below.refl w.heap.size w).alloc (Nat.le_refl _) (.cells #[.int .i64 k,.int .i64 f,.int .i64 t,.int .i64 i,.int .i64 p,.int .i64 q,.int .i64 a,.int .i64 wd,.int .i64 h,.int .i64 wt,.int .i64 x,.int .i64 z,.int .u32 s,.string d,.slice va vn vc] 25));obtain ⟨x0,x1,x2,x3,x4,x5,x6,x7,x8,x9,x10,x11,x12,x13,x14⟩:=zaa (zav w #[.int .i64 k,.int .i64 f,.int .i64 t,.int .i64 i,.int .i64 p,.int .i64 q,.int .i64 a,.int .i64 wd,.int .i64 h,.int .i64 wt,.int .i64 x,.int .i64 z,.int .u32 s,.string d,.slice va vn vc])
 go_enter Try.func10,Try.ntmps10
 go_wp2_with fail;refine (R.out _ HA.out).mono ?_;rintro e w1 ⟨rfl,b1⟩;have HB:=zid (HA.out.trans (b1.mono HA.out.size));clear b1;go_wp2_with fail;go_ret2;exact ⟨rfl,HB.out⟩
theorem zdQ {m:Ms} (h:Ok m) (B:ByteArray) (hB:B.data.toList=body m) (W:World):Calls Try.prog 16 #[.string B] W fun e w'=>e= .returned (.tuple #[.string ⟨(Fr.fr (body m)).toArray⟩,.int .i64 0])/\Below W.heap.size W w':=by
 have hs:B.size=(body m).length:=by rw [<-hB];rfl
 have:=zbB B W (by rw [hs];exact body_may h);rw [hB] at this;exact this
theorem zdM (va:Option Addr) (vn vc:Nat) (m:Ms) (w:World) (hv:zae w (.slice va vn vc) m.l) (hB:MsB m) (hok:Ok m) (hm:Fetch m):
 Calls Try.prog 10 #[zag (.slice va vn vc) m] w fun e w'=>e= .returned (zao m)/\Below w.heap.size w w':=by
 unfold zao;rw [zbs hok];dsimp only;have R:=fun (W:World) (hW:Below w.heap.size w W)=>zaH va vn vc m true W (zab hv hW) hB ⟨fun _=>hok,fun _=>rfl⟩
 have NA:=zid (zbh (zan m) 7 #[.int .i64 m.k,.int .i64 m.f,.int .i64 m.t,.int .i64 m.i,.int .i64 m.p,.int .i64 m.q,.int .i64 m.a] rfl rfl (by simp [zan]) (zbt fun y hy=>by
  have:=zct hok y hy
  omega))
 have HFR:=zid fun (B:ByteArray) (hb:B.data.toList=body m) (W:World)=>zdQ hok B hb W;have hp:=zaC (zan m);have hl7:(zan m).length=7:=rfl;rw [hl7] at hp
 have NT:=zid (zbh [m.wd,m.wt,m.x] 3 #[.int .i64 m.wd,.int .i64 m.wt,.int .i64 m.x] rfl rfl (by simp) (zbt fun y hy=>by
  have:=hm.wd0;have:=hm.wd1;have:=hm.wt0;have:=hm.wt1;have:=hm.x0;have:=hm.x1;simp only [List.mem_cons,List.not_mem_nil,or_false] at hy
  omega))
 have hk:=hm.k;have hp3:=zaC [m.wd,m.wt,m.x];have hl3:([m.wd,m.wt,m.x]:List Int).length=3:=rfl;rw [hl3] at hp3
 have HBD:=zid (show (⟨(puts (zan m)).toArray⟩++⟨(puts [m.wd,m.wt,m.x]).toArray⟩:ByteArray).data.toList=body m from by
  rw [ByteArray.mk_append_mk];show puts (zan m)++puts [m.wd,m.wt,m.x]=body m;unfold Wq.body
  rw [zce hm.k])
 have s1:¬9223372036854775807<(puts (zan m)).length+(puts [m.wd,m.wt,m.x]).length:=by omega
 clear hp hp3 hl3 hl7 hv hB hm hok;generalize puts [m.wd,m.wt,m.x]=T3 at*;generalize puts (zan m)=P7 at*;generalize Fr.fr (body m)=FR at*;unfold zag at*;replace R:=zid R;obtain ⟨k,f,t,i,p,q,a,wd,h,wt,x,z,s,d,l⟩:=m;dsimp only at*;subst hk;have HA:=zid ((Below.refl w.heap.size w).alloc (Nat.le_refl _) (.cells #[.int .i64 1,.int .i64 f,.int .i64 t,.int .i64 i,.int .i64 p,.int .i64 q,.int .i64 a,.int .i64 wd,.int .i64 h,.int .i64 wt,.int .i64 x,.int .i64 z,.int .u32 s,.string d,.slice va vn vc] 25));have G0:=zid (zav w #[.int .i64 1,.int .i64 f,.int .i64 t,.int .i64 i,.int .i64 p,.int .i64 q,.int .i64 a,.int .i64 wd,.int .i64 h,.int .i64 wt,.int .i64 x,.int .i64 z,.int .u32 s,.string d,.slice va vn vc]);obtain ⟨x0,x1,x2,x3,x4,x5,x6,x7,x8,x9,x10,x11,x12,x13,x14⟩:=zaa G0.out
 go_enter Try.func10,Try.ntmps10
 go_wp2_with fail;refine (R.out _ HA.out).mono ?_;rintro e w1 ⟨rfl,b1⟩;have HA1:=zid (HA.out.trans (b1.mono HA.out.size));have G1:=zid ((b1.block w.heap.size (by simp)).trans G0.out);clear b1 x0 x1 x2 x3 x4 x5 x6 x7 x8 x9 x10 x11 x12 x13 x14 G0 HA R;obtain ⟨x0,x1,x2,x3,x4,x5,x6,x7,x8,x9,x10,x11,x12,x13,x14⟩:=zaa G1.out;go_wp2_with fail;refine (NA.out _ _ rfl).mono ?_;rintro e w2 ⟨rfl,b2⟩;have HA2:=zid (HA1.out.trans (b2.mono HA1.out.size));have G2:=zid ((b2.block w.heap.size (Array.getElem?_eq_some_iff.1 G1.out).1).trans G1.out);clear b2 x0 x1 x2 x3 x4 x5 x6 x7 x8 x9 x10 x11 x12 x13 x14 G1 HA1 NA;obtain ⟨x0,x1,x2,x3,x4,x5,x6,x7,x8,x9,x10,x11,x12,x13,x14⟩:=zaa G2.out;go_wp2_with fail;refine (NT.out _ _ rfl).mono ?_;rintro e w3 ⟨rfl,b3⟩;have HA3:=zid (HA2.out.trans (b3.mono HA2.out.size));clear b3;go_wp2_with fail;refine (HFR.out _ HBD.out _).mono ?_;rintro e w4 ⟨rfl,b4⟩;have HA4:=zid (HA3.out.trans (b4.mono HA3.out.size));clear b4;go_wp2_with fail;go_ret2;exact ⟨rfl,HA4.out⟩
theorem zdN (va:Option Addr) (vn vc:Nat) (m:Ms) (w:World) (hv:zae w (.slice va vn vc) m.l) (hB:MsB m) (hok:Ok m) (hm:Chunk m):
 Calls Try.prog 10 #[zag (.slice va vn vc) m] w fun e w'=>e= .returned (zao m)/\Below w.heap.size w w':=by
 unfold zao;rw [zbs hok];dsimp only;have R:=fun (W:World) (hW:Below w.heap.size w W)=>zaH va vn vc m true W (zab hv hW) hB ⟨fun _=>hok,fun _=>rfl⟩
 have NA:=zid (zbh (zan m) 7 #[.int .i64 m.k,.int .i64 m.f,.int .i64 m.t,.int .i64 m.i,.int .i64 m.p,.int .i64 m.q,.int .i64 m.a] rfl rfl (by simp [zan]) (zbt fun y hy=>by
  have:=zct hok y hy
  omega))
 have HFR:=zid fun (B:ByteArray) (hb:B.data.toList=body m) (W:World)=>zdQ hok B hb W;have hp:=zaC (zan m);have hl7:(zan m).length=7:=rfl;rw [hl7] at hp;have NT:=zid (zci [m.z,m.x] 2 #[.int .i64 m.z,.int .i64 m.x] rfl rfl (by simp) (zeP ⟨by have:=hm.z0;omega,by have:=hm.z1;omega⟩ ⟨hm.x0,by have:=hm.x1;have:=hm.z1;omega⟩));obtain ⟨S,hS⟩:∃S:Nat,m.s=(S:Int):=⟨m.s.toNat,by have:=hm.s0;omega⟩;have FA:=zid fun (W:World)=>zdm S W (by have:=hm.s1;omega);have hk:=hm.k;have hd:=hm.d;have hp3:=zaC [m.z,m.x];have hl3:([m.z,m.x]:List Int).length=2:=rfl;rw [hl3] at hp3
 have HBD:=zid (show (⟨(puts (zan m)).toArray⟩++⟨(puts [m.z,m.x]).toArray⟩++⟨(zbT S).toArray⟩++m.d:ByteArray).data.toList=body m from by
  unfold Wq.body;rw [zcc hm.k,hS,Int.toNat_natCast,zbo]
  simp)
 have h4:(zbT S).length=4:=rfl
 have s1:¬9223372036854775807<(puts (zan m)).length+(puts [m.z,m.x]).length:=by omega
 have s2:¬9223372036854775807<(puts (zan m)).length+(puts [m.z,m.x]).length+(zbT S).length:=by omega
 have s3:¬9223372036854775807<(puts (zan m)).length+(puts [m.z,m.x]).length+(zbT S).length+m.d.size:=by omega
 clear hp hp3 hl3 hl7 hv hB hm h4 hd hok;generalize puts [m.z,m.x]=T3 at*;generalize zbT S=F4 at*;generalize puts (zan m)=P7 at*;generalize Fr.fr (body m)=FR at*;unfold zag at*;replace R:=zid R;obtain ⟨k,f,t,i,p,q,a,wd,h,wt,x,z,s,d,l⟩:=m;dsimp only at*;subst hk;subst hS;have HA:=zid ((Below.refl w.heap.size w).alloc (Nat.le_refl _) (.cells #[.int .i64 3,.int .i64 f,.int .i64 t,.int .i64 i,.int .i64 p,.int .i64 q,.int .i64 a,.int .i64 wd,.int .i64 h,.int .i64 wt,.int .i64 x,.int .i64 z,.int .u32 (S:Int),.string d,.slice va vn vc] 25));have G0:=zid (zav w #[.int .i64 3,.int .i64 f,.int .i64 t,.int .i64 i,.int .i64 p,.int .i64 q,.int .i64 a,.int .i64 wd,.int .i64 h,.int .i64 wt,.int .i64 x,.int .i64 z,.int .u32 (S:Int),.string d,.slice va vn vc]);obtain ⟨x0,x1,x2,x3,x4,x5,x6,x7,x8,x9,x10,x11,x12,x13,x14⟩:=zaa G0.out
 go_enter Try.func10,Try.ntmps10
 go_wp2_with fail;refine (R.out _ HA.out).mono ?_;rintro e w1 ⟨rfl,b1⟩;have HA1:=zid (HA.out.trans (b1.mono HA.out.size));have G1:=zid ((b1.block w.heap.size (by simp)).trans G0.out);clear b1 x0 x1 x2 x3 x4 x5 x6 x7 x8 x9 x10 x11 x12 x13 x14 G0 HA R;obtain ⟨x0,x1,x2,x3,x4,x5,x6,x7,x8,x9,x10,x11,x12,x13,x14⟩:=zaa G1.out;go_wp2_with fail;refine (NA.out _ _ rfl).mono ?_;rintro e w2 ⟨rfl,b2⟩;have HA2:=zid (HA1.out.trans (b2.mono HA1.out.size));have G2:=zid ((b2.block w.heap.size (Array.getElem?_eq_some_iff.1 G1.out).1).trans G1.out);clear b2 x0 x1 x2 x3 x4 x5 x6 x7 x8 x9 x10 x11 x12 x13 x14 G1 HA1 NA;obtain ⟨x0,x1,x2,x3,x4,x5,x6,x7,x8,x9,x10,x11,x12,x13,x14⟩:=zaa G2.out;have ST:(w2.cell? ⟨w.heap.size,11,none⟩=some (.int .i64 z)/\w2.cell? ⟨w.heap.size,10,none⟩=some (.int .i64 x)/\Below w.heap.size w w2)/\w2.cell? ⟨w.heap.size,12,none⟩=some (.int .u32 (S:Int))/\w2.cell? ⟨w.heap.size,13,none⟩=some (.string d):=⟨⟨x11,x10,HA2.out⟩,x12,x13⟩;go_wp2_with fail;clear x0 x1 x2 x3 x4 x5 x6 x7 x8 x9 x10 x11 x12 x13 x14
 go_region_held3 (fun W=>(W.cell? ⟨w.heap.size,11,none⟩=some (.int .i64 z)/\W.cell? ⟨w.heap.size,10,none⟩=some (.int .i64 x)/\Below w.heap.size w W)/\W.cell? ⟨w.heap.size,12,none⟩=some (.int .u32 (S:Int))/\W.cell? ⟨w.heap.size,13,none⟩=some (.string d)) (first | with_reducible assumption | with_reducible exact keep4d ST _ | with_reducible exact keep4a ST _ | with_reducible exact zcp ST (Below.refl _ _).drew | with_reducible exact zcp ST (by assumption) | with_reducible exact zcp (by assumption) (by assumption) | fail) (first | (go_at_call 22;refine (NT.out _ _ (by simp)).mono ?_;rintro e w4 ⟨rfl,b4⟩) | (go_at_call 23;refine (FA.out _).mono ?_;rintro e w4 ⟨rfl,b4⟩))
 rename_i hh;have HA3:=zid (zcF hh.1);clear hh ST;go_wp2_with fail;refine (HFR.out _ HBD.out _).mono ?_;rintro e w5 ⟨rfl,b5⟩;have HA4:=zid (HA3.out.trans (b5.mono HA3.out.size));clear b5;go_wp2_with fail;go_ret2;exact ⟨rfl,HA4.out⟩
theorem keep7 {w w1 w2:World} {a g b o:Nat} {x u v:Value} {cs:Array Value} (h:w1.cell? ⟨a,14,none⟩=some x/\w1.cell? ⟨g,o+1,none⟩=some u/\w1.cell? ⟨g,o+2,none⟩=some v/\zbe b cs w w1) (k:Below w1.heap.size w1 w2):
 w2.cell? ⟨a,14,none⟩=some x/\w2.cell? ⟨g,o+1,none⟩=some u/\w2.cell? ⟨g,o+2,none⟩=some v/\zbe b cs w w2:=
 ⟨(k.cell (p:=⟨a,14,none⟩) (block_lt_of_cell h.1)).trans h.1,(k.cell (p:=⟨g,o+1,none⟩) (block_lt_of_cell h.2.1)).trans h.2.1,(k.cell (p:=⟨g,o+2,none⟩) (block_lt_of_cell h.2.2.1)).trans h.2.2.1,h.2.2.2.keep k⟩
theorem keep7d {w w1:World} {a g b o:Nat} {x u v:Value} {cs:Array Value} (h:w1.cell? ⟨a,14,none⟩=some x/\w1.cell? ⟨g,o+1,none⟩=some u/\w1.cell? ⟨g,o+2,none⟩=some v/\zbe b cs w w1) (p:Obj):
 (w1.alloc p).drew.cell? ⟨a,14,none⟩=some x/\(w1.alloc p).drew.cell? ⟨g,o+1,none⟩=some u/\(w1.alloc p).drew.cell? ⟨g,o+2,none⟩=some v/\zbe b cs w (w1.alloc p).drew:=keep7 h ((Below.refl _ _).alloc (Nat.le_refl _) p).drew
theorem zdO (va:Option Addr) (vn vc:Nat) (m:Ms) (w:World) (hv:zae w (.slice va vn vc) m.l) (hB:MsB m) (hok:Ok m) (hm:Batch m):
 Calls Try.prog 10 #[zag (.slice va vn vc) m] w fun e w'=>e= .returned (zao m)/\Below w.heap.size w w':=by
 unfold zao;rw [zbs hok];dsimp only;have R:=fun (W:World) (hW:Below w.heap.size w W)=>zaH va vn vc m true W (zab hv hW) hB ⟨fun _=>hok,fun _=>rfl⟩
 have NA:=zid (zbh (zan m) 7 #[.int .i64 m.k,.int .i64 m.f,.int .i64 m.t,.int .i64 m.i,.int .i64 m.p,.int .i64 m.q,.int .i64 m.a] rfl rfl (by simp [zan]) (zbt fun y hy=>by
  have:=zct hok y hy
  omega))
 have HFR:=zid fun (B:ByteArray) (hb:B.data.toList=body m) (W:World)=>zdQ hok B hb W;have hp:=zaC (zan m);have hl7:(zan m).length=7:=rfl;rw [hl7] at hp;obtain ⟨hvl,hvm⟩:=za0 hv;have HV:=zid fun (W:World) (hW:Below w.heap.size w W)=>zab hv hW;have HVL:=zid hvl;have HOK:=zid hm.l.mem;have NT:=zid (zbh [m.h,(vn:Int)] 2 #[.int .i64 m.h,.int .i64 (vn:Int)] rfl rfl (by simp) (zeP ⟨hm.h0,by have:=hm.h1;omega⟩ ⟨by omega,by omega⟩));have hk:=hm.k
 have hv64:vn<=64:=by rw [hvl];exact hm.l.1
 have hp3:=zaC [m.h,(vn:Int)];have hl3:([m.h,(vn:Int)]:List Int).length=2:=rfl;rw [hl3] at hp3
 have HBD:=zid (show ∀R,R=puts (zan m)++puts [m.h,(vn:Int)]++zaA (m.l.take vn)->(⟨R.toArray⟩:ByteArray).data.toList=body m from fun R hR=>by
  subst hR;rw [List.take_of_length_le (by rw [hvl];exact Nat.le_refl _)];unfold Wq.body
  rw [zcd hm.k, <-hvl,List.append_assoc])
 have s1:¬9223372036854775807<(puts (zan m)).length+(puts [m.h,(vn:Int)]).length:=by omega
 have s0:(puts (zan m)).length+(puts [m.h,(vn:Int)]).length<=100:=by omega
 clear hp hp3 hl3 hl7 hv hB hm hvl hok;generalize puts [m.h,(vn:Int)]=T3 at*;generalize puts (zan m)=P7 at*;generalize Fr.fr (body m)=FR at*;unfold zag at*;replace R:=zid R;obtain ⟨k,f,t,i,p,q,a,wd,h,wt,x,z,s,d,l⟩:=m;dsimp only at*;subst hk;have HA:=zid ((Below.refl w.heap.size w).alloc (Nat.le_refl _) (.cells #[.int .i64 2,.int .i64 f,.int .i64 t,.int .i64 i,.int .i64 p,.int .i64 q,.int .i64 a,.int .i64 wd,.int .i64 h,.int .i64 wt,.int .i64 x,.int .i64 z,.int .u32 s,.string d,.slice va vn vc] 25));have G0:=zid (zav w #[.int .i64 2,.int .i64 f,.int .i64 t,.int .i64 i,.int .i64 p,.int .i64 q,.int .i64 a,.int .i64 wd,.int .i64 h,.int .i64 wt,.int .i64 x,.int .i64 z,.int .u32 s,.string d,.slice va vn vc]);obtain ⟨x0,x1,x2,x3,x4,x5,x6,x7,x8,x9,x10,x11,x12,x13,x14⟩:=zaa G0.out
 go_enter Try.func10,Try.ntmps10
 go_wp2_with fail;refine (R.out _ HA.out).mono ?_;rintro e w1 ⟨rfl,b1⟩;have HA1:=zid (HA.out.trans (b1.mono HA.out.size));have G1:=zid ((b1.block w.heap.size (by simp)).trans G0.out);clear b1 x0 x1 x2 x3 x4 x5 x6 x7 x8 x9 x10 x11 x12 x13 x14 G0 HA R;obtain ⟨x0,x1,x2,x3,x4,x5,x6,x7,x8,x9,x10,x11,x12,x13,x14⟩:=zaa G1.out;go_wp2_with fail;refine (NA.out _ _ rfl).mono ?_;rintro e w2 ⟨rfl,b2⟩;have HA2:=zid (HA1.out.trans (b2.mono HA1.out.size));have G2:=zid ((b2.block w.heap.size (Array.getElem?_eq_some_iff.1 G1.out).1).trans G1.out);clear b2 x0 x1 x2 x3 x4 x5 x6 x7 x8 x9 x10 x11 x12 x13 x14 G1 HA1 NA;obtain ⟨x0,x1,x2,x3,x4,x5,x6,x7,x8,x9,x10,x11,x12,x13,x14⟩:=zaa G2.out;go_wp2_with fail;refine (NT.out _ _ rfl).mono ?_;rintro e w3 ⟨rfl,b3⟩;have HA3:=zid (HA2.out.trans (b3.mono HA2.out.size));have G3:=zid ((b3.block w.heap.size (Array.getElem?_eq_some_iff.1 G2.out).1).trans G2.out);clear b3 x0 x1 x2 x3 x4 x5 x6 x7 x8 x9 x10 x11 x12 x13 x14 G2 HA2 NT;go_wp2_with fail;have HS0:=zid (show (⟨P7.toArray⟩++⟨T3.toArray⟩:ByteArray)=⟨(P7++T3++zaA (l.take 0)).toArray⟩ by rw [ByteArray.mk_append_mk,List.take_zero,zdo,List.append_nil])
 go_loopw [4,5] (fun sv j wr=>∃(k:Nat) (R:List UInt8),k<=vn/\j= .int .i64 k/\sv= .string ⟨R.toArray⟩/\Hid (R=P7++T3++zaA (l.take k))/\R.length<=100+82*k/\Hid (zbe w.heap.size #[.int .i64 2,.int .i64 f,.int .i64 t,.int .i64 i,.int .i64 p,.int .i64 q,.int .i64 a,.int .i64 wd,.int .i64 h,.int .i64 wt,.int .i64 x,.int .i64 z,.int .u32 s,.string d,.slice va vn vc] w wr)) (fun _ j _=>vn-(intOf j).toNat)
 case atStart=>exact ⟨0,P7++T3++zaA (l.take 0),Nat.zero_le _,rfl,by rw [HS0.out],zid rfl,by rw [List.take_zero,zdo,List.append_nil,List.length_append];omega,zid ⟨G3.out,HA3.out⟩⟩
 case round=>
  obtain ⟨k,R,hk,rfl,rfl,HR,hRl,HX⟩:=hrel
  by_cases hlt:k<vn
  · have hlt':k<l.length:=by rw [<-HVL.out];exact hlt
    obtain ⟨g,off,rfl,c0,c1,c2⟩:=zbw (HV.out wr HX.out.2) hlt
    have hr:=HOK.out _ (show l.getD k Rp.zero∈l by rw [show l.getD k Rp.zero=l[k] by simp [List.getD_eq_getElem?_getD,hlt']];exact List.getElem_mem _);have HT:=zid (zcD hlt');have x14:=(zaa HX.out.1).2.2.2.2.2.2.2.2.2.2.2.2.2.2;have ST:wr.cell? ⟨w.heap.size,14,none⟩=some (.slice (some ⟨g,off,none⟩) vn vc)/\wr.cell? ⟨g,off+k*3+1,none⟩=some (.int .i64 (l.getD k Rp.zero).t)/\wr.cell? ⟨g,off+k*3+2,none⟩=some (.string (l.getD k Rp.zero).d)/\zbe w.heap.size #[.int .i64 2,.int .i64 f,.int .i64 t,.int .i64 i,.int .i64 p,.int .i64 q,.int .i64 a,.int .i64 wd,.int .i64 h,.int .i64 wt,.int .i64 x,.int .i64 z,.int .u32 s,.string d,.slice (some ⟨g,off,none⟩) vn vc] w wr:=⟨x14,c1,c2,HX.out⟩;clear hlt' c0;generalize l.getD k Rp.zero=r at*;have ht0:=hr.2.2.1;have ht1:=hr.2.2.2.1;have hd:=hr.2.2.2.2;have NR:=zid (zci [r.t,(r.d.size:Int)] 2 #[.int .i64 r.t,.int .i64 (r.d.size:Int)] rfl rfl (by simp) (zeP ⟨ht0,by omega⟩ ⟨by omega,by omega⟩));have hpl:=zaC [r.t,(r.d.size:Int)];have HE:=zid (show recB r=puts [r.t,(r.d.size:Int)]++r.d.data.toList from rfl);have hll:([r.t,(r.d.size:Int)]:List Int).length=2:=rfl;rw [hll] at hpl;generalize puts [r.t,(r.d.size:Int)]=f2 at*
    have s2:¬9223372036854775807<R.length+f2.length:=by omega
    have s3:¬9223372036854775807<R.length+f2.length+r.d.size:=by omega
    have HLN:=zid (show (R++(f2++r.d.data.toList)).length<=100+82*(k+1) by rw [List.length_append,List.length_append];show R.length+(f2.length+r.d.size)<=_;omega);clear hr hll hpl ht0 ht1 hd c1 c2
    have k0:(0:Int)<=(k:Int):=by omega
    go_wp2_with fail;clear x14
    go_region_held3 (fun W=>W.cell? ⟨w.heap.size,14,none⟩=some (.slice (some ⟨g,off,none⟩) vn vc)/\W.cell? ⟨g,off+k*3+1,none⟩=some (.int .i64 r.t)/\W.cell? ⟨g,off+k*3+2,none⟩=some (.string r.d)/\zbe w.heap.size #[.int .i64 2,.int .i64 f,.int .i64 t,.int .i64 i,.int .i64 p,.int .i64 q,.int .i64 a,.int .i64 wd,.int .i64 h,.int .i64 wt,.int .i64 x,.int .i64 z,.int .u32 s,.string d,.slice (some ⟨g,off,none⟩) vn vc] w W) (first | with_reducible assumption | with_reducible exact keep7d ST _ | with_reducible exact keep7a ST _ | with_reducible exact keep7 ST (Below.refl _ _).drew | with_reducible exact keep7 ST (by assumption) | with_reducible exact keep7 (by assumption) (by assumption) | fail) (first | (go_at_call 22;refine (NR.out _ _ (by simp)).mono ?_;rintro e w4 ⟨rfl,b4⟩))
    rename_i hh;have HQ:=zid hh.2.2.2;clear hh ST;go_wp2_with fail
    go_roundw
    case rel=>exact ⟨k+1,R++(f2++r.d.data.toList),by omega,by go_num,congrArg Value.string (zdd R f2 r.d),zid (by rw [HT.out,HE.out,HR.out,List.append_assoc]),HLN.out,HQ⟩
    case measure=>simp [intOf];omega
  · obtain rfl:k=vn:=by omega
    have HF:=zid (HFR.out ⟨R.toArray⟩ (HBD.out R HR.out) wr)
    obtain ⟨x0,x1,x2,x3,x4,x5,x6,x7,x8,x9,x10,x11,x12,x13,x14⟩:=zaa HX.out.1;go_wp2_with fail;refine HF.out.mono ?_;rintro e w5 ⟨rfl,b5⟩;have HA4:=zid (HX.out.2.trans (b5.mono HX.out.2.size));clear b5;go_wp2_with fail;go_ret2;exact ⟨rfl,HA4.out⟩
theorem zff (va:Option Addr) (vn vc:Nat) (m:Ms) (w:World) (hv:zae w (.slice va vn vc) m.l) (hB:MsB m):
 Calls Try.prog 10 #[zag (.slice va vn vc) m] w fun e w'=>e= .returned (zao m)/\Below w.heap.size w w':=by
 by_cases h:Ok m
 · rcases h.2 with h1 | h1 | h1
   · exact zdM va vn vc m w hv hB h h1
   · exact zdO va vn vc m w hv hB h h1
   · exact zdN va vn vc m w hv hB h h1
 · exact rwput_no va vn vc m w hv hB h
/-! A reader that takes nothing any more once it has gone bad. -/
def numD (l:List UInt8) (b:Bool):Int×List UInt8×Bool:=if b=true then (0,l,true) else numR l false
def zaW (n:Int) (l:List UInt8) (b:Bool):List UInt8×List UInt8×Bool:=if b=true then ([],l,true) else zaE n l false
theorem zen (l:List UInt8):numD l true=(0,l,true):=rfl
theorem numD_go (l:List UInt8):numD l false=numR l false:=rfl
theorem zbg (n:Int) (l:List UInt8):zaW n l true=([],l,true):=rfl
theorem zb2 (n:Int) (l:List UInt8):zaW n l false=zaE n l false:=rfl
theorem zcY (l:List UInt8) (b:Bool):0<=(numD l b).1/\(numD l b).1<=9223372036854775807/\(numD l b).2.1.length<=l.length:=by
 cases b
 · exact zaY l false
 · exact ⟨Int.le_refl _,show (0:Int)<=9223372036854775807 by decide,Nat.le_refl _⟩
theorem textD_in (n:Int) (l:List UInt8) (b:Bool):(zaW n l b).1.length<=l.length/\(zaW n l b).2.1.length<=l.length:=by
 cases b
 · exact zcJ n l false
 · exact ⟨by rw [zbg];simp,Nat.le_refl _⟩
def CU (S:ByteArray) (r k:Nat) (b:Bool) (w:World):Prop:=w.heap[r]?=some (.cells #[.string S,.int .i64 (k:Int),.bool b] 82 (0,0))
theorem CU.cells {S:ByteArray} {r k:Nat} {b:Bool} {w:World} (h:CU S r k b w):w.cell? ⟨r,0,none⟩=some (.string S)/\w.cell? ⟨r,1,none⟩=some (.int .i64 (k:Int))/\w.cell? ⟨r,2,none⟩=some (.bool b)/\w.frozen? ⟨r,1,none⟩=false/\w.frozen? ⟨r,2,none⟩=false:=
 ⟨by rw [cell_of_row _ _ 0 _ _ _ h];rfl,by rw [cell_of_row _ _ 1 _ _ _ h];rfl,by rw [cell_of_row _ _ 2 _ _ _ h];rfl,by unfold World.frozen?;rw [h];rfl,by unfold World.frozen?;rw [h];rfl⟩
theorem CU.lt {S:ByteArray} {r k:Nat} {b:Bool} {w:World} (h:CU S r k b w):r<w.heap.size:=(Array.getElem?_eq_some_iff.1 h).1
theorem CU.keep {S:ByteArray} {r k:Nat} {b:Bool} {w w':World} (h:CU S r k b w) (g:Below w.heap.size w w'):CU S r k b w':=(g.block r h.lt).trans h
theorem CU.at_ {S:ByteArray} {r k k':Nat} {b:Bool} {w:World} (h:CU S r k b w):CU S r k' b (w.setCell ⟨r,1,none⟩ (.int .i64 (k':Int))):=heap_setCell_same w r 1 _ _ _ h
theorem CU.bad {S:ByteArray} {r k:Nat} {b b':Bool} {w:World} (h:CU S r k b w):CU S r k b' (w.setCell ⟨r,2,none⟩ (.bool b')):=heap_setCell_same w r 2 _ _ _ h
theorem CU.other {S:ByteArray} {r k q:Nat} {b:Bool} {w:World} (h:CU S r k b w) (hq:r≠q) (j:Nat) (u:Value):CU S r k b (w.setCell ⟨q,j,none⟩ u):=(Below.heap_setCell _ _ _ _ hq).trans h
def CuOut (S:ByteArray) (r:Nat) (v:Value) (l:List UInt8) (b:Bool) (w:World) (e:Ending) (w':World):Prop:=∃k,k<=S.size/\S.data.toList.drop k=l/\e= .returned v/\CU S r k b w'/\w.grownBy w' (some r)
theorem cnum_any (S:ByteArray) (r k:Nat) (b:Bool) (w:World) (h:CU S r k b w) (hk:k<=S.size) (hS:S.size<=140737488351232):
 Calls Try.prog 51 #[.pointer (some ⟨r,0,none⟩)] w (CuOut S r (.int .i64 (numD (S.data.toList.drop k) b).1) (numD (S.data.toList.drop k) b).2.1 (numD (S.data.toList.drop k) b).2.2 w):=by
 obtain ⟨c0,c1,c2,f1,f2⟩:=h.cells;have H:=zid h
 cases b with
 | true=>
  rw [zen];dsimp only;clear h
  go_enter Try.func51,Try.ntmps51
  go_wp2_with fail;go_ret;exact ⟨k,hk,rfl,rfl,H.out,⟨rfl,rfl,rfl,Nat.le_refl _,fun _ _ _=>rfl⟩⟩
 | false=>
  rw [numD_go];have R:=fun W:World=>zdl S (k:Int) W (by omega)
  rcases ht:Vp.take (S.data.toList.drop k) with _ | ⟨n,j⟩
  · rw [zdq ht] at R
    rw [zbF ht]
    dsimp only;replace R:=zid R;clear ht h;have ST:w.cell? ⟨r,0,none⟩=some (.string S)/\w.cell? ⟨r,1,none⟩=some (.int .i64 (k:Int))/\Below w.heap.size w w:=⟨c0,c1,Below.refl _ _⟩
    go_enter Try.func51,Try.ntmps51
    go_wp2_with fail;clear c0 c1 c2 f1 f2
    go_region_held3 (fun W=>W.cell? ⟨r,0,none⟩=some (.string S)/\W.cell? ⟨r,1,none⟩=some (.int .i64 (k:Int))/\Below w.heap.size w W) (first | with_reducible assumption | with_reducible exact zcq ST (Below.refl _ _).drew | with_reducible exact zcq ST (by assumption) | with_reducible exact zcq (by assumption) (by assumption) | fail) (first | (go_at_call 50;refine (R.out _).mono ?_;rintro e w4 ⟨rfl,b4⟩))
    rename_i hh;have HB:=zid (zcF hh);have H1:=zid (H.out.keep HB.out);clear hh ST;obtain ⟨c0,c1,c2,f1,f2⟩:=H1.out.cells;go_wp2_with fail;go_ret;exact ⟨k,hk,rfl,rfl,H1.out.bad,zad (zax r HB.out) (zaf _ _ _ _)⟩
  · obtain ⟨_,_,hj,_⟩:=Vp.take_some ht
    rw [zdp (q:=k+j) ht rfl] at R
    rw [zbl ht];dsimp only;replace R:=zid R;have HJ:=zid (show k+j<=S.size by rw [List.length_drop] at hj;have:S.data.toList.length=S.size:=rfl;omega);have HD:=zid (show S.data.toList.drop (k+j)=(S.data.toList.drop k).drop j by rw [List.drop_drop]);clear ht h hj;have ST:w.cell? ⟨r,0,none⟩=some (.string S)/\w.cell? ⟨r,1,none⟩=some (.int .i64 (k:Int))/\Below w.heap.size w w:=⟨c0,c1,Below.refl _ _⟩;generalize k+j=q at*
    go_enter Try.func51,Try.ntmps51
    go_wp2_with fail;clear c0 c1 c2 f1 f2
    go_region_held3 (fun W=>W.cell? ⟨r,0,none⟩=some (.string S)/\W.cell? ⟨r,1,none⟩=some (.int .i64 (k:Int))/\Below w.heap.size w W) (first | with_reducible assumption | with_reducible exact zcq ST (Below.refl _ _).drew | with_reducible exact zcq ST (by assumption) | with_reducible exact zcq (by assumption) (by assumption) | fail) (first | (go_at_call 50;refine (R.out _).mono ?_;rintro e w4 ⟨rfl,b4⟩))
    rename_i hh;have HB:=zid (zcF hh);have H1:=zid (H.out.keep HB.out);clear hh ST;obtain ⟨c0,c1,c2,f1,f2⟩:=H1.out.cells;go_wp2_with fail;go_ret;exact ⟨q,HJ.out,HD.out,rfl,H1.out.at_,zad (zax r HB.out) (zaf _ _ _ _)⟩
theorem ze3 (s:ByteArray) (k q:Nat) (w:World) (h:k+q<=s.size):(Instr.slice 9 (.string s) (some (.int .i64 (k:Int))) (some (.int .i64 ((k:Int)+(q:Int)))) none).run Try.prog w= .ok (.string (s.extract k (k+q))) w:=by
 have:=zec s k (k+q) w (by omega) h
 rwa [Int.natCast_add] at this
theorem zfN (S:ByteArray) (r k:Nat) (n:Int) (b:Bool) (w:World) (h:CU S r k b w) (hk:k<=S.size) (hS:S.size<=140737488351232) (h0:0<=n) (h1:n<=9223372036854775807):
 Calls Try.prog 52 #[.pointer (some ⟨r,0,none⟩),.int .i64 n] w (CuOut S r (.string ⟨(zaW n (S.data.toList.drop k) b).1.toArray⟩) (zaW n (S.data.toList.drop k) b).2.1 (zaW n (S.data.toList.drop k) b).2.2 w):=by
 obtain ⟨c0,c1,c2,f1,f2⟩:=h.cells;have H:=zid h
 have hl:(S.data.toList.drop k).length=S.size-k:=by rw [List.length_drop];rfl
 cases b with
 | true=>
  rw [zbg];dsimp only;clear h
  go_enter Try.func52,Try.ntmps52
  go_wp2_with fail
  go_quiet (fail)
  go_wp2_with fail;go_ret;exact ⟨k,hk,rfl,rfl,(H.out.keep (zaw _)).bad,zad (zax r (zaw _)) (zaf _ _ _ _)⟩
 | false=>
  rw [zb2]
  have hkb:(k:Int)<=(S.size:Int):=by omega
  have hsb:(S.size:Int)<=140737488351232:=by omega
  have u0:IntKind.i64.wrap ((S.size:Int)-(k:Int))=(S.size:Int)-(k:Int):=IntWalk.i64_in _ ⟨by omega,by omega⟩
  by_cases h4:(S.size:Int)-(k:Int)<n
  · rw [zby false (by omega)]
    dsimp only
    clear h hl
    go_enter Try.func52,Try.ntmps52
    go_wp2_with fail
    go_quiet (fail)
    go_wp2_with fail;go_ret;exact ⟨k,hk,rfl,rfl,(H.out.keep (zaw _)).bad,zad (zax r (zaw _)) (zaf _ _ _ _)⟩
  · rw [zaV false (by omega)]
    dsimp only
    obtain ⟨q,rfl⟩:∃q:Nat,n=(q:Int):=⟨n.toNat,by omega⟩;rw [Int.toNat_natCast]
    have h5:decide ((S.size:Int)-(k:Int)<(q:Int))=false:=by simp;omega
    have hkq:k+q<=S.size:=by omega
    have hs:=fun W:World=>ze3 S k q W hkq
    have HX:=zid (show S.extract k (k+q)=⟨((S.data.toList.drop k).take q).toArray⟩ by
     apply ByteArray.ext
     apply Array.ext'
     rw [zaN]
     simp)
    rw [HX.out] at hs;have HD:=zid (show S.data.toList.drop (k+q)=(S.data.toList.drop k).drop q by rw [List.drop_drop]);have u1:IntKind.i64.wrap ((k:Int)+(q:Int))=(k:Int)+(q:Int):=IntWalk.i64_in _ ⟨by omega,by omega⟩
    have u2:(k:Int)+(q:Int)<=140737488351232:=by omega
    have HKQ:=zid hkq;clear h hl h4 h0 h1 hkq
    go_enter Try.func52,Try.ntmps52
    go_wp2_with fail
    go_quiet (fail)
    go_wp2_with fail
    go_quiet (fail)
    go_wp2_with fail;go_ret;exact ⟨k+q,HKQ.out,HD.out,rfl,(H.out.keep (zaw _)).at_,zad (zax r (zaw _)) (zaf _ _ _ _)⟩
end Wr
end Go.Proofs.Ytmkdcpjlhphhiaa

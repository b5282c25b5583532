/-
  Parts of what the laws of this seat stand on:Law16S.
-/
import Derived.Test.YtmkdcpjlhphhiaaBj1
import Derived.Deep.AppendLies
import Derived.Deep.RegionHeld3
import Derived.Laws.AppendOwn
import Derived.Laws.BitsAllLaws
import Derived.Test.YtmkdcpjlhphhiaaBj10
import Derived.Test.YtmkdcpjlhphhiaaBj13
import Derived.Test.YtmkdcpjlhphhiaaBj17
import Derived.Test.YtmkdcpjlhphhiaaBj19
import Derived.Test.YtmkdcpjlhphhiaaBj8
set_option maxRecDepth 100000
set_option maxHeartbeats 6400000
namespace Go.Proofs.Ytmkdcpjlhphhiaa
namespace Wr
open Go.RowKit Qm Wq Mfs
theorem xor_one (a:Int):bits .xor .i64 a 1≠a:=by
 intro h;have h1:IntKind.i64.wrap ((BitVec.ofInt 64 a^^^BitVec.ofInt 64 1).toNat:Int)=a:=h;have hlt:=(BitVec.ofInt 64 a^^^BitVec.ofInt 64 1).isLt
 have hx:((BitVec.ofInt 64 a).toNat:Int)=a%18446744073709551616:=by
  rw [BitVec.toNat_ofInt];omega
 have e:(BitVec.ofInt 64 a^^^BitVec.ofInt 64 1).toNat=(BitVec.ofInt 64 a).toNat:=by
  rw [IntKind.wrap_i64] at h1;omega
 rw [BitVec.toNat_xor] at e;have e2:=congrArg (fun n=>Nat.testBit n 0) e;simp only [Nat.testBit_xor] at e2;rw [show (BitVec.ofInt 64 1).toNat=1 from by decide] at e2
 revert e2
 generalize (BitVec.ofInt 64 a).toNat.testBit 0=z
 cases z<;>decide
theorem zd2 {w:World} {ops:Array Oper} {rest:List Oper} {o:Oper} {a:Act} {Q:Exit->Act->World->Prop} (hgd:o.guard=none) (s x:Operand)
 (ho:o.op= .call {callee:= .builtin .append,args:= #[s,x],argTypes:= #[23,23]}) (base g:Nat) (va:Option Addr) (vn vc:Nat) (l:List Rp.Rec)
 (hs:a.eval s= .slice (some ⟨g,0,none⟩) 0 0) (hx:a.eval x= .slice va vn vc) (hg:w.heap[g]?=some (.cells #[] 41 (0,0))) (hb:base<=g) (hv:zae w (.slice va vn vc) l) (h70:l.length<=100000) (hbase:base<=w.heap.size)
 (h:∀v' w',w'.ownsRow base 41 3 v' l.length (zaj l)->w.grownBy w' (some g)->wpList Try.prog ops Q rest (a.put o.dst v') w'):wpList Try.prog ops Q (o::rest) a w:=by
 obtain ⟨i0,hi,hz0,hz1,hz2⟩:=info_parts zb5;have hown:w.ownsRow base 41 3 (.slice (some ⟨g,0,none⟩) 0 0) 0 []:=⟨rfl,.inr ⟨g,0,#[],rfl,hb,hg,Nat.le_refl _,Nat.zero_le _,rfl,rfl⟩⟩;obtain ⟨a',c',e,hm,hok,h3⟩:=hv
 injection e with e1 e2 e3
 subst e1 e2 e3
 cases va with
 | none=>
  have hl:l=[]:=by
   rcases h3 with h3 | ⟨b,off,h3,_⟩
   · exact h3
   · cases h3
  subst hl
  have hr:(Builtin.append_ #[23,23] o.type #[.slice (some ⟨g,0,none⟩) 0 0,.slice none 0 vc]).run Try.prog w= .ok (.slice (some ⟨g,0,none⟩) 0 0) w:=by
   simp [Builtin.append_,run_underlying Try.underlying23,sizeOf,typeInfo,hi,Builtin.lenOf,Builtin.firstCells,loadCells,loadCellsFrom,storeCells]
  refine wpList_plain hgd fun _ hK=>?_;unfold Oper.wp execOp;simp only [ho,resolve,invoke,builtin,Sem.run_bind,Sem.run_pure,Result.andThen_ok,List.map_toArray,List.map_cons,List.map_nil,hs,hx,List.length_nil,hr];exact hK _ _ (h _ w hown ⟨rfl,rfl,rfl,Nat.le_refl _,fun _ _ _=>rfl⟩)
 | some ad=>
  have hnews:∀j u,(zaj l)[j]?=some u->w.cell? (ad.add j)=some u:=by
   intro j u hj
   rcases h3 with rfl | ⟨b,off,e,h4⟩
   · simp [zaj] at hj
   · injection e with e
     subst e
     have hjl:=(List.getElem?_eq_some_iff.1 hj).1;rw [zaX] at hjl;obtain ⟨q,t,rfl,ht⟩:∃q t,j=q*3+t/\t<3:=⟨j/3,j%3,by omega,by omega⟩
     have hq:q<l.length:=by omega
     obtain ⟨k0,k1,k2⟩:=zcl l q hq;obtain ⟨c0,c1,c2⟩:=h4 q hq;rw [za7]
     match t,ht with
     | 0,_=>rw [Nat.add_zero] at hj ⊢;rw [k0] at hj;injection hj with hj;subst hj;exact c0
     | 1,_=>rw [k1] at hj;injection hj with hj;subst hj;rw [<-Nat.add_assoc];exact c1
     | 2,_=>rw [k2] at hj;injection hj with hj;subst hj;rw [<-Nat.add_assoc];exact c2
  refine wpList_append_own w hgd s x _ ho base _ i0 (.agg #[.int .i64 0,.int .i64 0,.string ByteArray.empty]) 3 32 Try.underlying23 hi hz0 hz1 hz2 rfl (by decide) _ 0 [] hs hown ad l.length vc (zaj l) hx (zaX l) hnews ?_ (by unfold maxLen;omega) (by omega) hbase fun v' w' h1 h2 _=>?_
  · intro u hu
    unfold zaj at hu
    rw [List.mem_flatMap] at hu;obtain ⟨r,_,hu⟩:=hu;simp at hu
    rcases hu with rfl | rfl | rfl<;>rfl
  · rw [Nat.zero_add,List.nil_append] at h1
    exact h v' w' h1 h2
theorem zcB (va ua:Option Addr) (vn vc un uc:Nat) (m n:Ms) (w:World) (hv:zae w (.slice va vn vc) m.l) (hu:zae w (.slice ua un uc) n.l) (hfar:zaJ m=false\/(zaJ m=true/\zaJ n=false)):
 Calls Try.prog 6 #[zag (.slice va vn vc) m,zag (.slice ua un uc) n] w fun e w'=>e= .returned (.bool true)/\Below w.heap.size w w':=by
 have M2:=zid (show Mb w [(w.heap.size+1,#[.int .i64 n.k,.int .i64 n.f,.int .i64 n.t,.int .i64 n.i,.int .i64 n.p,.int .i64 n.q,.int .i64 n.a,.int .i64 n.wd,.int .i64 n.h,.int .i64 n.wt,.int .i64 n.x,.int .i64 n.z,.int .u32 n.s,.string n.d,.slice ua un uc]),(w.heap.size,#[.int .i64 m.k,.int .i64 m.f,.int .i64 m.t,.int .i64 m.i,.int .i64 m.p,.int .i64 m.q,.int .i64 m.a,.int .i64 m.wd,.int .i64 m.h,.int .i64 m.wt,.int .i64 m.x,.int .i64 m.z,.int .u32 m.s,.string m.d,.slice va vn vc])] ((w.alloc (.cells #[.int .i64 m.k,.int .i64 m.f,.int .i64 m.t,.int .i64 m.i,.int .i64 m.p,.int .i64 m.q,.int .i64 m.a,.int .i64 m.wd,.int .i64 m.h,.int .i64 m.wt,.int .i64 m.x,.int .i64 m.z,.int .u32 m.s,.string m.d,.slice va vn vc] 25)).alloc (.cells #[.int .i64 n.k,.int .i64 n.f,.int .i64 n.t,.int .i64 n.i,.int .i64 n.p,.int .i64 n.q,.int .i64 n.a,.int .i64 n.wd,.int .i64 n.h,.int .i64 n.wt,.int .i64 n.x,.int .i64 n.z,.int .u32 n.s,.string n.d,.slice ua un uc] 25)) from by
  have:=((Mb.start w).new #[.int .i64 m.k,.int .i64 m.f,.int .i64 m.t,.int .i64 m.i,.int .i64 m.p,.int .i64 m.q,.int .i64 m.a,.int .i64 m.wd,.int .i64 m.h,.int .i64 m.wt,.int .i64 m.x,.int .i64 m.z,.int .u32 m.s,.string m.d,.slice va vn vc]).new #[.int .i64 n.k,.int .i64 n.f,.int .i64 n.t,.int .i64 n.i,.int .i64 n.p,.int .i64 n.q,.int .i64 n.a,.int .i64 n.wd,.int .i64 n.h,.int .i64 n.wt,.int .i64 n.x,.int .i64 n.z,.int .u32 n.s,.string n.d,.slice ua un uc]
  rwa [World.size_alloc] at this)
 have SA:=fun (W:World) (hW:Below w.heap.size w W)=>zat va vn vc m W (zab hv hW);have SB:=fun (W:World) (hW:Below w.heap.size w W)=>zat ua un uc n W (zab hu hW);have AW:=zid zbb;unfold zag at*;clear hv hu
 rcases hfar with hf | ⟨hf,hg⟩
 · rw [hf] at SA
   replace SA:=zid SA
   clear hf SB
   go_enter Try.func6,Try.ntmps6
   go_upto_region 1 with (fail);generalize World.alloc (World.alloc w _) _=w2 at M2 ⊢;have z0:=M2.out.at_ (b:=w.heap.size) (cs:= #[.int .i64 m.k,.int .i64 m.f,.int .i64 m.t,.int .i64 m.i,.int .i64 m.p,.int .i64 m.q,.int .i64 m.a,.int .i64 m.wd,.int .i64 m.h,.int .i64 m.wt,.int .i64 m.x,.int .i64 m.z,.int .u32 m.s,.string m.d,.slice va vn vc]) (mcm mcs)
   go_wp2_with (refine zas _ _ rfl rfl rfl (by assumption) rfl ?_)
   refine (SA.out _ M2.out.1).mono ?_;rintro e w3 ⟨rfl,b3⟩;have M3:=zid (M2.out.keep b3);clear b3 z0;go_wp2_with fail;refine (AW.out _).mono ?_;rintro e w4 ⟨rfl,b4⟩;have M4:=zid (M3.out.keep b4);clear b4;go_wp2_with fail;go_ret;exact ⟨rfl,M4.out.1⟩
 · rw [hf] at SA
   rw [hg] at SB
   replace SA:=zid SA;replace SB:=zid SB;clear hf hg
   go_enter Try.func6,Try.ntmps6
   go_upto_region 1 with (fail);generalize World.alloc (World.alloc w _) _=w2 at M2 ⊢;have z0:=M2.out.at_ (b:=w.heap.size) (cs:= #[.int .i64 m.k,.int .i64 m.f,.int .i64 m.t,.int .i64 m.i,.int .i64 m.p,.int .i64 m.q,.int .i64 m.a,.int .i64 m.wd,.int .i64 m.h,.int .i64 m.wt,.int .i64 m.x,.int .i64 m.z,.int .u32 m.s,.string m.d,.slice va vn vc]) (mcm mcs)
   go_wp2_with (refine zas _ _ rfl rfl rfl (by assumption) rfl ?_)
   refine (SA.out _ M2.out.1).mono ?_;rintro e w3 ⟨rfl,b3⟩;have M3:=zid (M2.out.keep b3);clear b3 z0;have z1:=M3.out.at_ (b:=w.heap.size+1) (cs:= #[.int .i64 n.k,.int .i64 n.f,.int .i64 n.t,.int .i64 n.i,.int .i64 n.p,.int .i64 n.q,.int .i64 n.a,.int .i64 n.wd,.int .i64 n.h,.int .i64 n.wt,.int .i64 n.x,.int .i64 n.z,.int .u32 n.s,.string n.d,.slice ua un uc]) mcs
   go_wp2_with (refine zas _ _ rfl rfl rfl (by assumption) rfl ?_)
   refine (SB.out _ M3.out.1).mono ?_;rintro e w4 ⟨rfl,b4⟩;have M4:=zid (M3.out.keep b4);clear b4 z1;go_wp2_with fail;refine (AW.out _).mono ?_;rintro e w5 ⟨rfl,b5⟩;have M5:=zid (M4.out.keep b5);clear b5;go_wp2_with fail;go_ret;exact ⟨rfl,M5.out.1⟩
theorem zdL (va ua:Option Addr) (vn vc un uc:Nat) (m n:Ms) (w:World) (hv:zae w (.slice va vn vc) m.l) (hu:zae w (.slice ua un uc) n.l) (hm:zaJ m=true) (hn:zaJ n=true):
 Calls Try.prog 6 #[zag (.slice va vn vc) m,zag (.slice ua un uc) n] w fun e w'=>e= .returned (.bool true)/\Below w.heap.size w w':=by
 have M2:=zid (show Mb w [(w.heap.size+1,#[.int .i64 n.k,.int .i64 n.f,.int .i64 n.t,.int .i64 n.i,.int .i64 n.p,.int .i64 n.q,.int .i64 n.a,.int .i64 n.wd,.int .i64 n.h,.int .i64 n.wt,.int .i64 n.x,.int .i64 n.z,.int .u32 n.s,.string n.d,.slice ua un uc]),(w.heap.size,#[.int .i64 m.k,.int .i64 m.f,.int .i64 m.t,.int .i64 m.i,.int .i64 m.p,.int .i64 m.q,.int .i64 m.a,.int .i64 m.wd,.int .i64 m.h,.int .i64 m.wt,.int .i64 m.x,.int .i64 m.z,.int .u32 m.s,.string m.d,.slice va vn vc])] ((w.alloc (.cells #[.int .i64 m.k,.int .i64 m.f,.int .i64 m.t,.int .i64 m.i,.int .i64 m.p,.int .i64 m.q,.int .i64 m.a,.int .i64 m.wd,.int .i64 m.h,.int .i64 m.wt,.int .i64 m.x,.int .i64 m.z,.int .u32 m.s,.string m.d,.slice va vn vc] 25)).alloc (.cells #[.int .i64 n.k,.int .i64 n.f,.int .i64 n.t,.int .i64 n.i,.int .i64 n.p,.int .i64 n.q,.int .i64 n.a,.int .i64 n.wd,.int .i64 n.h,.int .i64 n.wt,.int .i64 n.x,.int .i64 n.z,.int .u32 n.s,.string n.d,.slice ua un uc] 25)) from by
  have:=((Mb.start w).new #[.int .i64 m.k,.int .i64 m.f,.int .i64 m.t,.int .i64 m.i,.int .i64 m.p,.int .i64 m.q,.int .i64 m.a,.int .i64 m.wd,.int .i64 m.h,.int .i64 m.wt,.int .i64 m.x,.int .i64 m.z,.int .u32 m.s,.string m.d,.slice va vn vc]).new #[.int .i64 n.k,.int .i64 n.f,.int .i64 n.t,.int .i64 n.i,.int .i64 n.p,.int .i64 n.q,.int .i64 n.a,.int .i64 n.wd,.int .i64 n.h,.int .i64 n.wt,.int .i64 n.x,.int .i64 n.z,.int .u32 n.s,.string n.d,.slice ua un uc]
  rwa [World.size_alloc] at this)
 have SA:=fun (W:World) (hW:Below w.heap.size w W)=>zat va vn vc m W (zab hv hW);have SB:=fun (W:World) (hW:Below w.heap.size w W)=>zat ua un uc n W (zab hu hW);rw [hm] at SA;rw [hn] at SB;have AW:=zid zbb;have HV:=zid hv;have HU:=zid hu
 have h70:m.l.length<=70:=by
  unfold zaJ at hm;rw [Bool.and_eq_true] at hm;have:=fewB_le hm.1;omega
 have H70:=zid h70;unfold zag at*;replace SA:=zid SA;replace SB:=zid SB;clear hm hn hv hu h70
 go_enter Try.func6,Try.ntmps6
 go_upto_region 1 with (fail);generalize World.alloc (World.alloc w _) _=w2 at M2 ⊢;obtain ⟨p1,hp1⟩:∃p1,w.heap.size+1=p1:=⟨_,rfl⟩;rw [hp1] at M2 ⊢
 have hp:w.heap.size<p1:=by omega
 clear hp1;have z0:=M2.out.at_ (b:=w.heap.size) (cs:= #[.int .i64 m.k,.int .i64 m.f,.int .i64 m.t,.int .i64 m.i,.int .i64 m.p,.int .i64 m.q,.int .i64 m.a,.int .i64 m.wd,.int .i64 m.h,.int .i64 m.wt,.int .i64 m.x,.int .i64 m.z,.int .u32 m.s,.string m.d,.slice va vn vc]) (mcm mcs)
 go_wp2_with (refine zas _ _ rfl rfl rfl (by assumption) rfl ?_)
 refine (SA.out _ M2.out.1).mono ?_;rintro e w3 ⟨rfl,b3⟩;have M3:=zid (M2.out.keep b3);clear b3 z0 M2;have z1:=M3.out.at_ (b:=p1) (cs:= #[.int .i64 n.k,.int .i64 n.f,.int .i64 n.t,.int .i64 n.i,.int .i64 n.p,.int .i64 n.q,.int .i64 n.a,.int .i64 n.wd,.int .i64 n.h,.int .i64 n.wt,.int .i64 n.x,.int .i64 n.z,.int .u32 n.s,.string n.d,.slice ua un uc]) mcs
 go_wp2_with (refine zas _ _ rfl rfl rfl (by assumption) rfl ?_)
 refine (SB.out _ M3.out.1).mono ?_;rintro e w4 ⟨rfl,b4⟩;have M4:=zid (M3.out.keep b4);clear b4 z1 M3;have z0:=M4.out.at_ (b:=w.heap.size) (cs:= #[.int .i64 m.k,.int .i64 m.f,.int .i64 m.t,.int .i64 m.i,.int .i64 m.p,.int .i64 m.q,.int .i64 m.a,.int .i64 m.wd,.int .i64 m.h,.int .i64 m.wt,.int .i64 m.x,.int .i64 m.z,.int .u32 m.s,.string m.d,.slice va vn vc]) (mcm mcs)
 go_upto_region 4 with (first | (refine zas _ _ rfl rfl rfl (by assumption) rfl ?_) | (refine za9 _ _ rfl rfl rfl rfl rfl rfl (zbm _ _ _ _) ?_))
 have M5:=zid (M4.out.new #[.int .i64 m.k,.int .i64 m.f,.int .i64 m.t,.int .i64 m.i,.int .i64 m.p,.int .i64 m.q,.int .i64 m.a,.int .i64 m.wd,.int .i64 m.h,.int .i64 m.wt,.int .i64 m.x,.int .i64 m.z,.int .u32 m.s,.string m.d,.slice va vn vc]);have hl1:=M4.out.lt (b:=p1) (cs:= #[.int .i64 n.k,.int .i64 n.f,.int .i64 n.t,.int .i64 n.i,.int .i64 n.p,.int .i64 n.q,.int .i64 n.a,.int .i64 n.wd,.int .i64 n.h,.int .i64 n.wt,.int .i64 n.x,.int .i64 n.z,.int .u32 n.s,.string n.d,.slice ua un uc]) mcs;clear z0 M4;obtain ⟨tx,htx⟩:∃tx,w4.heap.size=tx:=⟨_,rfl⟩;rw [htx] at M5 hl1 ⊢;clear htx;generalize World.alloc w4 _=w5 at M5 ⊢;obtain ⟨x0,x1,x2,x3,x4,x5,x6,x7,x8,x9,x10,x11,x12,x13,x14⟩:=zaa (M5.out.at_ (b:=w.heap.size) (cs:= #[.int .i64 m.k,.int .i64 m.f,.int .i64 m.t,.int .i64 m.i,.int .i64 m.p,.int .i64 m.q,.int .i64 m.a,.int .i64 m.wd,.int .i64 m.h,.int .i64 m.wt,.int .i64 m.x,.int .i64 m.z,.int .u32 m.s,.string m.d,.slice va vn vc]) (mcm (mcm mcs)));obtain ⟨y0,y1,y2,y3,y4,y5,y6,y7,y8,y9,y10,y11,y12,y13,y14⟩:=zaa (M5.out.at_ (b:=tx) (cs:= #[.int .i64 m.k,.int .i64 m.f,.int .i64 m.t,.int .i64 m.i,.int .i64 m.p,.int .i64 m.q,.int .i64 m.a,.int .i64 m.wd,.int .i64 m.h,.int .i64 m.wt,.int .i64 m.x,.int .i64 m.z,.int .u32 m.s,.string m.d,.slice va vn vc]) mcs);have fz:=zac (M5.out.at_ (b:=tx) (cs:= #[.int .i64 m.k,.int .i64 m.f,.int .i64 m.t,.int .i64 m.i,.int .i64 m.p,.int .i64 m.q,.int .i64 m.a,.int .i64 m.wd,.int .i64 m.h,.int .i64 m.wt,.int .i64 m.x,.int .i64 m.z,.int .u32 m.s,.string m.d,.slice va vn vc]) mcs);go_upto_region 5 with (fail);obtain ⟨q,hq⟩:∃q,bits .xor .i64 m.q 1=q:=⟨_,rfl⟩;have HQ1:=zid (show q≠m.q by rw [<-hq];exact xor_one m.q);rw [hq];clear hq x0 x1 x2 x3 x4 x5 x6 x7 x8 x9 x10 x11 x12 x13 x14 y0 y1 y2 y3 y4 y5 y6 y7 y8 y9 y10 y11 y12 y13 y14 fz;have M6:=zid (show Mb w [(tx,#[.int .i64 m.k,.int .i64 m.f,.int .i64 m.t,.int .i64 m.i,.int .i64 m.p,.int .i64 q,.int .i64 m.a,.int .i64 m.wd,.int .i64 m.h,.int .i64 m.wt,.int .i64 m.x,.int .i64 m.z,.int .u32 m.s,.string m.d,.slice va vn vc]),(p1,#[.int .i64 n.k,.int .i64 n.f,.int .i64 n.t,.int .i64 n.i,.int .i64 n.p,.int .i64 n.q,.int .i64 n.a,.int .i64 n.wd,.int .i64 n.h,.int .i64 n.wt,.int .i64 n.x,.int .i64 n.z,.int .u32 n.s,.string n.d,.slice ua un uc]),(w.heap.size,#[.int .i64 m.k,.int .i64 m.f,.int .i64 m.t,.int .i64 m.i,.int .i64 m.p,.int .i64 m.q,.int .i64 m.a,.int .i64 m.wd,.int .i64 m.h,.int .i64 m.wt,.int .i64 m.x,.int .i64 m.z,.int .u32 m.s,.string m.d,.slice va vn vc])] (w5.setCell ⟨tx,5,none⟩ (.int .i64 q)) from M5.out.set (by omega) (by simp;omega) 5 (.int .i64 q));clear M5;generalize World.setCell w5 _ _=w6 at M6 ⊢;have z0:=M6.out.at_ (b:=w.heap.size) (cs:= #[.int .i64 m.k,.int .i64 m.f,.int .i64 m.t,.int .i64 m.i,.int .i64 m.p,.int .i64 m.q,.int .i64 m.a,.int .i64 m.wd,.int .i64 m.h,.int .i64 m.wt,.int .i64 m.x,.int .i64 m.z,.int .u32 m.s,.string m.d,.slice va vn vc]) (mcm (mcm mcs))
 go_upto_region 6 with (first | (refine zas _ _ rfl rfl rfl (by assumption) rfl ?_) | (refine za9 _ _ rfl rfl rfl rfl rfl rfl (zbm _ _ _ _) ?_))
 have M7:=zid (M6.out.new #[.int .i64 m.k,.int .i64 m.f,.int .i64 m.t,.int .i64 m.i,.int .i64 m.p,.int .i64 m.q,.int .i64 m.a,.int .i64 m.wd,.int .i64 m.h,.int .i64 m.wt,.int .i64 m.x,.int .i64 m.z,.int .u32 m.s,.string m.d,.slice va vn vc]);have hl2:=M6.out.lt (b:=tx) (cs:= #[.int .i64 m.k,.int .i64 m.f,.int .i64 m.t,.int .i64 m.i,.int .i64 m.p,.int .i64 q,.int .i64 m.a,.int .i64 m.wd,.int .i64 m.h,.int .i64 m.wt,.int .i64 m.x,.int .i64 m.z,.int .u32 m.s,.string m.d,.slice va vn vc]) mcs;clear z0 M6;obtain ⟨ty,hty⟩:∃ty,w6.heap.size=ty:=⟨_,rfl⟩;rw [hty] at M7 hl2 ⊢;clear hty;generalize World.alloc w6 _=w7 at M7 ⊢;have hl3:=M7.out.lt (b:=ty) (cs:= #[.int .i64 m.k,.int .i64 m.f,.int .i64 m.t,.int .i64 m.i,.int .i64 m.p,.int .i64 m.q,.int .i64 m.a,.int .i64 m.wd,.int .i64 m.h,.int .i64 m.wt,.int .i64 m.x,.int .i64 m.z,.int .u32 m.s,.string m.d,.slice va vn vc]) mcs;have M8:=zid (M7.out.alloc (.cells #[] 41));have HG8:=zid (heap_alloc_new w7 (.cells #[] 41));have HV8:=zid (zab HV.out M8.out.1);obtain ⟨x0,x1,x2,x3,x4,x5,x6,x7,x8,x9,x10,x11,x12,x13,x14⟩:=zaa (M8.out.at_ (b:=w.heap.size) (cs:= #[.int .i64 m.k,.int .i64 m.f,.int .i64 m.t,.int .i64 m.i,.int .i64 m.p,.int .i64 m.q,.int .i64 m.a,.int .i64 m.wd,.int .i64 m.h,.int .i64 m.wt,.int .i64 m.x,.int .i64 m.z,.int .u32 m.s,.string m.d,.slice va vn vc]) (mcm (mcm (mcm mcs))))
 go_wp2_with (at_builtin;refine zd2 rfl _ _ rfl w7.heap.size w7.heap.size va vn vc m.l rfl rfl HG8.out (Nat.le_refl _) HV8.out (Nat.le_trans H70.out (by decide)) (by simp) ?_)
 intro v9 w9 hown9 hgr9
 have M9:=zid (M8.out.grown hgr9 (fun k hk=>by
  injection hk with hk
  subst hk;refine ⟨by omega,fun p hp=>?_⟩;simp only [List.mem_cons,List.not_mem_nil,or_false] at hp
  rcases hp with rfl | rfl | rfl | rfl<;>(dsimp only;omega)))
 have hsz9:=hgr9.size;have O10:=zid (World.ownsRow.alloc hown9 (.cells #[.int .i64 0,.int .i64 0,.string ⟨#[]⟩] 41));have M10:=zid (M9.out.alloc (.cells #[.int .i64 0,.int .i64 0,.string ⟨#[]⟩] 41));have NW:=zid (zbG w9 _ [.int .i64 0,.int .i64 0,.string ⟨#[]⟩] 41 rfl)
 have hb9:w7.heap.size<=(w9.alloc (.cells #[.int .i64 0,.int .i64 0,.string ⟨#[]⟩] 41)).heap.size:=by
  simp at hsz9 ⊢;omega
 have HB9:=zid hb9;obtain ⟨i0,hi,hz0,hz1,hz2⟩:=info_parts zb5;have H70b:=zid (show m.l.length+1<=maxLen/\(m.l.length+1)*32<=140737488355328 by unfold maxLen;have:=H70.out;omega);clear hown9 hgr9 hsz9 hb9 x0 x1 x2 x3 x4 x5 x6 x7 x8 x9 x10 x11 x12 x13 x14 M8 M9 HG8 HV8
 go_wp2_with (at_builtin;refine wpList_append_own _ rfl _ _ 23 rfl w7.heap.size 41 i0 (.agg #[.int .i64 0,.int .i64 0,.string ByteArray.empty]) 3 32 Try.underlying23 hi hz0 hz1 hz2 rfl (by decide) v9 m.l.length (zaj m.l) rfl O10.out ⟨w9.heap.size,0,none⟩ 1 1 [.int .i64 0,.int .i64 0,.string ⟨#[]⟩] rfl rfl NW.out (by simp [Value.oneCell']) H70b.out.1 H70b.out.2 HB9.out ?_)
 intro v11 w11 hown11 hgr11 hnil11;obtain ⟨gb,cap,rfl,hgb,_⟩:=hown11.form (by omega)
 have M11:=zid (M10.out.grown hgr11 (fun k hk=>by
  have hk:=(O10.out.lt k hk).1;refine ⟨by omega,fun p hp=>?_⟩;simp only [List.mem_cons,List.not_mem_nil,or_false] at hp
  rcases hp with rfl | rfl | rfl | rfl<;>(dsimp only;omega)))
 have O11:=zid (show w11.ownsRow w7.heap.size 41 3 (.slice (some ⟨gb,0,none⟩) (m.l.length+1) cap) (m.l.length+1) (zaj (m.l++[⟨0,0,⟨#[]⟩⟩])) from by rw [zbj];exact hown11);clear hown11 hgr11 hnil11 O10 M10 NW HB9;obtain ⟨y0,y1,y2,y3,y4,y5,y6,y7,y8,y9,y10,y11,y12,y13,y14⟩:=zaa (M11.out.at_ (b:=ty) (cs:= #[.int .i64 m.k,.int .i64 m.f,.int .i64 m.t,.int .i64 m.i,.int .i64 m.p,.int .i64 m.q,.int .i64 m.a,.int .i64 m.wd,.int .i64 m.h,.int .i64 m.wt,.int .i64 m.x,.int .i64 m.z,.int .u32 m.s,.string m.d,.slice va vn vc]) mcs);have fz:=zac (M11.out.at_ (b:=ty) (cs:= #[.int .i64 m.k,.int .i64 m.f,.int .i64 m.t,.int .i64 m.i,.int .i64 m.p,.int .i64 m.q,.int .i64 m.a,.int .i64 m.wd,.int .i64 m.h,.int .i64 m.wt,.int .i64 m.x,.int .i64 m.z,.int .u32 m.s,.string m.d,.slice va vn vc]) mcs);go_upto_region 7 with (fail);clear y0 y1 y2 y3 y4 y5 y6 y7 y8 y9 y10 y11 y12 y13 y14 fz;have M12:=zid (show Mb w [(ty,#[.int .i64 m.k,.int .i64 m.f,.int .i64 m.t,.int .i64 m.i,.int .i64 m.p,.int .i64 m.q,.int .i64 m.a,.int .i64 m.wd,.int .i64 m.h,.int .i64 m.wt,.int .i64 m.x,.int .i64 m.z,.int .u32 m.s,.string m.d,.slice (some ⟨gb,0,none⟩) (m.l.length+1) cap]),(tx,#[.int .i64 m.k,.int .i64 m.f,.int .i64 m.t,.int .i64 m.i,.int .i64 m.p,.int .i64 q,.int .i64 m.a,.int .i64 m.wd,.int .i64 m.h,.int .i64 m.wt,.int .i64 m.x,.int .i64 m.z,.int .u32 m.s,.string m.d,.slice va vn vc]),(p1,#[.int .i64 n.k,.int .i64 n.f,.int .i64 n.t,.int .i64 n.i,.int .i64 n.p,.int .i64 n.q,.int .i64 n.a,.int .i64 n.wd,.int .i64 n.h,.int .i64 n.wt,.int .i64 n.x,.int .i64 n.z,.int .u32 n.s,.string n.d,.slice ua un uc]),(w.heap.size,#[.int .i64 m.k,.int .i64 m.f,.int .i64 m.t,.int .i64 m.i,.int .i64 m.p,.int .i64 m.q,.int .i64 m.a,.int .i64 m.wd,.int .i64 m.h,.int .i64 m.wt,.int .i64 m.x,.int .i64 m.z,.int .u32 m.s,.string m.d,.slice va vn vc])] (w11.setCell ⟨ty,14,none⟩ (.slice (some ⟨gb,0,none⟩) (m.l.length+1) cap)) from M11.out.set (by omega) (by simp;omega) 14 (.slice (some ⟨gb,0,none⟩) (m.l.length+1) cap));have O12:=zid (zaB O11.out hl3 (zaf w11 ty 14 (.slice (some ⟨gb,0,none⟩) (m.l.length+1) cap)));clear M11 O11;generalize World.setCell w11 _ _=w12 at M12 O12 ⊢;have B12:=zid M12.out.1;have Z0:=zid (M12.out.at_ (b:=w.heap.size) (cs:= #[.int .i64 m.k,.int .i64 m.f,.int .i64 m.t,.int .i64 m.i,.int .i64 m.p,.int .i64 m.q,.int .i64 m.a,.int .i64 m.wd,.int .i64 m.h,.int .i64 m.wt,.int .i64 m.x,.int .i64 m.z,.int .u32 m.s,.string m.d,.slice va vn vc]) (mcm (mcm (mcm mcs))));have Z1:=zid (M12.out.at_ (b:=p1) (cs:= #[.int .i64 n.k,.int .i64 n.f,.int .i64 n.t,.int .i64 n.i,.int .i64 n.p,.int .i64 n.q,.int .i64 n.a,.int .i64 n.wd,.int .i64 n.h,.int .i64 n.wt,.int .i64 n.x,.int .i64 n.z,.int .u32 n.s,.string n.d,.slice ua un uc]) (mcm (mcm mcs)));have ZX:=zid (M12.out.at_ (b:=tx) (cs:= #[.int .i64 m.k,.int .i64 m.f,.int .i64 m.t,.int .i64 m.i,.int .i64 m.p,.int .i64 q,.int .i64 m.a,.int .i64 m.wd,.int .i64 m.h,.int .i64 m.wt,.int .i64 m.x,.int .i64 m.z,.int .u32 m.s,.string m.d,.slice va vn vc]) (mcm mcs));have ZY:=zid (M12.out.at_ (b:=ty) (cs:= #[.int .i64 m.k,.int .i64 m.f,.int .i64 m.t,.int .i64 m.i,.int .i64 m.p,.int .i64 m.q,.int .i64 m.a,.int .i64 m.wd,.int .i64 m.h,.int .i64 m.wt,.int .i64 m.x,.int .i64 m.z,.int .u32 m.s,.string m.d,.slice (some ⟨gb,0,none⟩) (m.l.length+1) cap]) mcs);have l0:=(Array.getElem?_eq_some_iff.1 Z0.out).1;have l1:=(Array.getElem?_eq_some_iff.1 Z1.out).1;have lx:=(Array.getElem?_eq_some_iff.1 ZX.out).1;have ly:=(Array.getElem?_eq_some_iff.1 ZY.out).1;have HVW:=zid (zab HV.out B12.out);have HUW:=zid (zab HU.out B12.out)
 have HOW:=zid (show zae w12 (.slice (some ⟨gb,0,none⟩) (m.l.length+1) cap) (m.l++[⟨0,0,⟨#[]⟩⟩]) from zae.own_ok O12.out H70b.out.1 (fun x hx=>by
  rw [List.mem_append,List.mem_singleton] at hx
  rcases hx with hx | rfl
  · obtain ⟨_,_,_,_,hok,_⟩:=HV.out
    exact hok x hx
  · exact ⟨by decide,by decide,by decide,by decide,by decide⟩))
 obtain ⟨b,hb⟩:∃b:Bool,b=true↔m=n:=by
  by_cases h:m=n
  · exact ⟨true,fun _=>h,fun _=>rfl⟩
  · exact ⟨false,(fun h=>by cases h),fun h2=>absurd h2 h⟩
 have SMM:=fun (W:World) (h:Below w12.heap.size w12 W)=>zbf va vn vc va vn vc m m true W (zab HVW.out h) (zab HVW.out h) ⟨fun _=>rfl,fun _=>rfl⟩;have SMN:=fun (W:World) (h:Below w12.heap.size w12 W)=>zbf va vn vc ua un uc m n b W (zab HVW.out h) (zab HUW.out h) hb;have RMN:=fun (W:World) (h:Below w12.heap.size w12 W)=>zaL va vn vc ua un uc m n b W (zab HVW.out h) (zab HUW.out h) hb
 have SMX:=fun (W:World) (h:Below w12.heap.size w12 W)=>zbf va vn vc va vn vc m {m with q:=q} false W (zab HVW.out h) (zab HVW.out h) ⟨(fun h=>by cases h),fun h=>absurd (congrArg Ms.q h).symm HQ1.out⟩
 have SMY:=fun (W:World) (h:Below w12.heap.size w12 W)=>zbf va vn vc (some ⟨gb,0,none⟩) (m.l.length+1) cap m {m with l:=m.l++[⟨0,0,⟨#[]⟩⟩]} false W (zab HVW.out h) (zab HOW.out h) ⟨(fun h=>by cases h),fun h=>by have:=congrArg (fun x=>x.l.length) h;simp at this⟩
 unfold zag at SMM SMN RMN SMX SMY;dsimp only at SMX SMY;replace SMM:=zid SMM;replace SMN:=zid SMN;replace RMN:=zid RMN;replace SMX:=zid SMX;replace SMY:=zid SMY;clear hb SA SB HV HU H70 H70b M7 M12 O12 HVW HUW HOW hi hz0 hz1 hz2 hl1 hl2 hl3 hgb hp;have h0:(fun W=>Below w12.heap.size w12 W) w12.drew:=(Below.refl _ _).drew;refine zar (by kernel_rfl) (fun W=>Below w12.heap.size w12 W) 28 rfl #[false,false,false,false,false,false,false,false,false,false,false,false,false,false,false,false,false,false,false,false,false,false,false,false,false,false,false,false] rfl ?_;refine wpAnyH_ready (rs:=[0]) (by kernel_rfl) (by simp) (AllReadyH.cons rfl (fun K hK=>?_) AllReadyH.nil);replace hK:=zid hK
 go_simp
 refine (AW.out _).mono ?_;rintro e w16 ⟨rfl,b16⟩;have h1:=h0.trans (b16.mono h0.size);clear b16;dsimp only;refine hK.out _ _ h1 (fun _=>?_);clear hK K h0;simp only [List.setIfInBounds_toArray,List.set_cons_zero];refine wpAnyH_take (i:=1) (v:= .bool true) rfl (by kernel_rfl) (by kernel_rfl) (by kernel_rfl) (fun _ _ _ h=>h) (Or.inl ⟨by kernel_rfl,fun W' hS=>?_⟩) h1 ?_
 · go_simp
 simp only [Act.put,List.setIfInBounds_toArray,List.set_cons_zero,List.set_cons_succ,List.getElem_toArray,List.getElem_cons_succ,List.getElem_cons_zero];refine wpAnyH_take (i:=2) (v:= .agg #[.int .i64 m.k,.int .i64 m.f,.int .i64 m.t,.int .i64 m.i,.int .i64 m.p,.int .i64 m.q,.int .i64 m.a,.int .i64 m.wd,.int .i64 m.h,.int .i64 m.wt,.int .i64 m.x,.int .i64 m.z,.int .u32 m.s,.string m.d,.slice va vn vc]) rfl (by kernel_rfl) (by kernel_rfl) (by kernel_rfl) (fun _ _ _ h=>h) (Or.inl ⟨by kernel_rfl,fun W' hS=>?_⟩) h1 ?_
 · exact za1 rfl rfl ((hS.block _ l0).trans Z0.out) rfl
 simp only [Act.put,List.setIfInBounds_toArray,List.set_cons_zero,List.set_cons_succ,List.getElem_toArray,List.getElem_cons_succ,List.getElem_cons_zero];refine wpAnyH_take (i:=3) (v:= .agg #[.int .i64 m.k,.int .i64 m.f,.int .i64 m.t,.int .i64 m.i,.int .i64 m.p,.int .i64 m.q,.int .i64 m.a,.int .i64 m.wd,.int .i64 m.h,.int .i64 m.wt,.int .i64 m.x,.int .i64 m.z,.int .u32 m.s,.string m.d,.slice va vn vc]) rfl (by kernel_rfl) (by kernel_rfl) (by kernel_rfl) (fun _ _ _ h=>h) (Or.inl ⟨by kernel_rfl,fun W' hS=>?_⟩) h1 ?_
 · exact za1 rfl rfl ((hS.block _ l0).trans Z0.out) rfl
 simp only [Act.put,List.setIfInBounds_toArray,List.set_cons_zero,List.set_cons_succ,List.getElem_toArray,List.getElem_cons_succ,List.getElem_cons_zero];refine wpAnyH_ready (rs:=[4]) (by kernel_rfl) (by simp) (AllReadyH.cons rfl (fun K hK=>?_) AllReadyH.nil);replace hK:=zid hK
 go_simp
 refine (SMM.out _ h1).mono ?_;rintro e w17 ⟨rfl,b16⟩;have h2:=h1.trans (b16.mono h1.size);clear b16;dsimp only;refine hK.out _ _ h2 (fun _=>?_);clear hK K h1;simp only [List.setIfInBounds_toArray,List.set_cons_zero,List.set_cons_succ];refine wpAnyH_take (i:=5) (v:= .bool true) rfl (by kernel_rfl) (by kernel_rfl) (by kernel_rfl) (fun _ _ _ h=>h) (Or.inl ⟨by kernel_rfl,fun W' hS=>?_⟩) h2 ?_
 · go_simp
 simp only [Act.put,List.setIfInBounds_toArray,List.set_cons_zero,List.set_cons_succ,List.getElem_toArray,List.getElem_cons_succ,List.getElem_cons_zero];refine wpAnyH_take (i:=6) (v:= .bool true) rfl (by kernel_rfl) (by kernel_rfl) (by kernel_rfl) (fun _ _ _ h=>h) (Or.inl ⟨by kernel_rfl,fun W' hS=>?_⟩) h2 ?_
 · go_simp
 simp only [Act.put,List.setIfInBounds_toArray,List.set_cons_zero,List.set_cons_succ,List.getElem_toArray,List.getElem_cons_succ,List.getElem_cons_zero];refine wpAnyH_take (i:=7) (v:= .agg #[.int .i64 m.k,.int .i64 m.f,.int .i64 m.t,.int .i64 m.i,.int .i64 m.p,.int .i64 m.q,.int .i64 m.a,.int .i64 m.wd,.int .i64 m.h,.int .i64 m.wt,.int .i64 m.x,.int .i64 m.z,.int .u32 m.s,.string m.d,.slice va vn vc]) rfl (by kernel_rfl) (by kernel_rfl) (by kernel_rfl) (fun _ _ _ h=>h) (Or.inl ⟨by kernel_rfl,fun W' hS=>?_⟩) h2 ?_
 · exact za1 rfl rfl ((hS.block _ l0).trans Z0.out) rfl
 simp only [Act.put,List.setIfInBounds_toArray,List.set_cons_zero,List.set_cons_succ,List.getElem_toArray,List.getElem_cons_succ,List.getElem_cons_zero];refine wpAnyH_take (i:=8) (v:= .agg #[.int .i64 n.k,.int .i64 n.f,.int .i64 n.t,.int .i64 n.i,.int .i64 n.p,.int .i64 n.q,.int .i64 n.a,.int .i64 n.wd,.int .i64 n.h,.int .i64 n.wt,.int .i64 n.x,.int .i64 n.z,.int .u32 n.s,.string n.d,.slice ua un uc]) rfl (by kernel_rfl) (by kernel_rfl) (by kernel_rfl) (fun _ _ _ h=>h) (Or.inl ⟨by kernel_rfl,fun W' hS=>?_⟩) h2 ?_
 · exact za1 rfl rfl ((hS.block _ l1).trans Z1.out) rfl
 simp only [Act.put,List.setIfInBounds_toArray,List.set_cons_zero,List.set_cons_succ,List.getElem_toArray,List.getElem_cons_succ,List.getElem_cons_zero];refine wpAnyH_take (i:=10) (v:= .agg #[.int .i64 m.k,.int .i64 m.f,.int .i64 m.t,.int .i64 m.i,.int .i64 m.p,.int .i64 m.q,.int .i64 m.a,.int .i64 m.wd,.int .i64 m.h,.int .i64 m.wt,.int .i64 m.x,.int .i64 m.z,.int .u32 m.s,.string m.d,.slice va vn vc]) rfl (by kernel_rfl) (by kernel_rfl) (by kernel_rfl) (fun _ _ _ h=>h) (Or.inl ⟨by kernel_rfl,fun W' hS=>?_⟩) h2 ?_
 · exact za1 rfl rfl ((hS.block _ l0).trans Z0.out) rfl
 simp only [Act.put,List.setIfInBounds_toArray,List.set_cons_zero,List.set_cons_succ,List.getElem_toArray,List.getElem_cons_succ,List.getElem_cons_zero];refine wpAnyH_take (i:=11) (v:= .agg #[.int .i64 n.k,.int .i64 n.f,.int .i64 n.t,.int .i64 n.i,.int .i64 n.p,.int .i64 n.q,.int .i64 n.a,.int .i64 n.wd,.int .i64 n.h,.int .i64 n.wt,.int .i64 n.x,.int .i64 n.z,.int .u32 n.s,.string n.d,.slice ua un uc]) rfl (by kernel_rfl) (by kernel_rfl) (by kernel_rfl) (fun _ _ _ h=>h) (Or.inl ⟨by kernel_rfl,fun W' hS=>?_⟩) h2 ?_
 · exact za1 rfl rfl ((hS.block _ l1).trans Z1.out) rfl
 simp only [Act.put,List.setIfInBounds_toArray,List.set_cons_zero,List.set_cons_succ,List.getElem_toArray,List.getElem_cons_succ,List.getElem_cons_zero];refine wpAnyH_ready (rs:=[9]) (by kernel_rfl) (by simp) (AllReadyH.cons rfl (fun K hK=>?_) AllReadyH.nil);replace hK:=zid hK
 go_simp
 refine (SMN.out _ h2).mono ?_;rintro e w18 ⟨rfl,b16⟩;have h3:=h2.trans (b16.mono h2.size);clear b16;dsimp only;refine hK.out _ _ h3 (fun _=>?_);clear hK K h2;simp only [List.setIfInBounds_toArray,List.set_cons_zero,List.set_cons_succ];refine wpAnyH_ready (rs:=[12]) (by kernel_rfl) (by simp) (AllReadyH.cons rfl (fun K hK=>?_) AllReadyH.nil);replace hK:=zid hK
 go_simp
 refine (RMN.out _ h3).mono ?_;rintro e w19 ⟨rfl,b16⟩;have h4:=h3.trans (b16.mono h3.size);clear b16;dsimp only;refine hK.out _ _ h4 (fun _=>?_);clear hK K h3;simp only [List.setIfInBounds_toArray,List.set_cons_zero,List.set_cons_succ];refine wpAnyH_take (i:=13) (v:= .bool true) rfl (by kernel_rfl) (by kernel_rfl) (by kernel_rfl) (fun _ _ _ h=>h) (Or.inl ⟨by kernel_rfl,fun W' hS=>?_⟩) h4 ?_
 · go_simp
 simp only [Act.put,List.setIfInBounds_toArray,List.set_cons_zero,List.set_cons_succ,List.getElem_toArray,List.getElem_cons_succ,List.getElem_cons_zero];refine wpAnyH_take (i:=14) (v:= .bool true) rfl (by kernel_rfl) (by kernel_rfl) (by kernel_rfl) (fun _ _ _ h=>h) (Or.inl ⟨by kernel_rfl,fun W' hS=>?_⟩) h4 ?_
 · go_simp
 simp only [Act.put,List.setIfInBounds_toArray,List.set_cons_zero,List.set_cons_succ,List.getElem_toArray,List.getElem_cons_succ,List.getElem_cons_zero];refine wpAnyH_take (i:=15) (v:= .bool true) rfl (by kernel_rfl) (by kernel_rfl) (by kernel_rfl) (fun _ _ _ h=>h) (Or.inl ⟨by kernel_rfl,fun W' hS=>?_⟩) h4 ?_
 · go_simp
 simp only [Act.put,List.setIfInBounds_toArray,List.set_cons_zero,List.set_cons_succ,List.getElem_toArray,List.getElem_cons_succ,List.getElem_cons_zero];refine wpAnyH_take (i:=16) (v:= .agg #[.int .i64 m.k,.int .i64 m.f,.int .i64 m.t,.int .i64 m.i,.int .i64 m.p,.int .i64 m.q,.int .i64 m.a,.int .i64 m.wd,.int .i64 m.h,.int .i64 m.wt,.int .i64 m.x,.int .i64 m.z,.int .u32 m.s,.string m.d,.slice va vn vc]) rfl (by kernel_rfl) (by kernel_rfl) (by kernel_rfl) (fun _ _ _ h=>h) (Or.inl ⟨by kernel_rfl,fun W' hS=>?_⟩) h4 ?_
 · exact za1 rfl rfl ((hS.block _ l0).trans Z0.out) rfl
 simp only [Act.put,List.setIfInBounds_toArray,List.set_cons_zero,List.set_cons_succ,List.getElem_toArray,List.getElem_cons_succ,List.getElem_cons_zero];refine wpAnyH_take (i:=17) (v:= .agg #[.int .i64 m.k,.int .i64 m.f,.int .i64 m.t,.int .i64 m.i,.int .i64 m.p,.int .i64 q,.int .i64 m.a,.int .i64 m.wd,.int .i64 m.h,.int .i64 m.wt,.int .i64 m.x,.int .i64 m.z,.int .u32 m.s,.string m.d,.slice va vn vc]) rfl (by kernel_rfl) (by kernel_rfl) (by kernel_rfl) (fun _ _ _ h=>h) (Or.inl ⟨by kernel_rfl,fun W' hS=>?_⟩) h4 ?_
 · exact za1 rfl rfl ((hS.block _ lx).trans ZX.out) rfl
 simp only [Act.put,List.setIfInBounds_toArray,List.set_cons_zero,List.set_cons_succ,List.getElem_toArray,List.getElem_cons_succ,List.getElem_cons_zero];refine wpAnyH_ready (rs:=[18]) (by kernel_rfl) (by simp) (AllReadyH.cons rfl (fun K hK=>?_) AllReadyH.nil);replace hK:=zid hK
 go_simp
 refine (SMX.out _ h4).mono ?_;rintro e w20 ⟨rfl,b16⟩;have h5:=h4.trans (b16.mono h4.size);clear b16;dsimp only;refine hK.out _ _ h5 (fun _=>?_);clear hK K h4;simp only [List.setIfInBounds_toArray,List.set_cons_zero,List.set_cons_succ];refine wpAnyH_take (i:=19) (v:= .bool true) rfl (by kernel_rfl) (by kernel_rfl) (by kernel_rfl) (fun _ _ _ h=>h) (Or.inl ⟨by kernel_rfl,fun W' hS=>?_⟩) h5 ?_
 · go_simp
 simp only [Act.put,List.setIfInBounds_toArray,List.set_cons_zero,List.set_cons_succ,List.getElem_toArray,List.getElem_cons_succ,List.getElem_cons_zero];refine wpAnyH_take (i:=20) (v:= .bool true) rfl (by kernel_rfl) (by kernel_rfl) (by kernel_rfl) (fun _ _ _ h=>h) (Or.inl ⟨by kernel_rfl,fun W' hS=>?_⟩) h5 ?_
 · go_simp
 simp only [Act.put,List.setIfInBounds_toArray,List.set_cons_zero,List.set_cons_succ,List.getElem_toArray,List.getElem_cons_succ,List.getElem_cons_zero];refine wpAnyH_take (i:=21) (v:= .bool true) rfl (by kernel_rfl) (by kernel_rfl) (by kernel_rfl) (fun _ _ _ h=>h) (Or.inl ⟨by kernel_rfl,fun W' hS=>?_⟩) h5 ?_
 · go_simp
 simp only [Act.put,List.setIfInBounds_toArray,List.set_cons_zero,List.set_cons_succ,List.getElem_toArray,List.getElem_cons_succ,List.getElem_cons_zero];refine wpAnyH_take (i:=22) (v:= .agg #[.int .i64 m.k,.int .i64 m.f,.int .i64 m.t,.int .i64 m.i,.int .i64 m.p,.int .i64 m.q,.int .i64 m.a,.int .i64 m.wd,.int .i64 m.h,.int .i64 m.wt,.int .i64 m.x,.int .i64 m.z,.int .u32 m.s,.string m.d,.slice va vn vc]) rfl (by kernel_rfl) (by kernel_rfl) (by kernel_rfl) (fun _ _ _ h=>h) (Or.inl ⟨by kernel_rfl,fun W' hS=>?_⟩) h5 ?_
 · exact za1 rfl rfl ((hS.block _ l0).trans Z0.out) rfl
 simp only [Act.put,List.setIfInBounds_toArray,List.set_cons_zero,List.set_cons_succ,List.getElem_toArray,List.getElem_cons_succ,List.getElem_cons_zero];refine wpAnyH_take (i:=23) (v:= .agg #[.int .i64 m.k,.int .i64 m.f,.int .i64 m.t,.int .i64 m.i,.int .i64 m.p,.int .i64 m.q,.int .i64 m.a,.int .i64 m.wd,.int .i64 m.h,.int .i64 m.wt,.int .i64 m.x,.int .i64 m.z,.int .u32 m.s,.string m.d,.slice (some ⟨gb,0,none⟩) (m.l.length+1) cap]) rfl (by kernel_rfl) (by kernel_rfl) (by kernel_rfl) (fun _ _ _ h=>h) (Or.inl ⟨by kernel_rfl,fun W' hS=>?_⟩) h5 ?_
 · exact za1 rfl rfl ((hS.block _ ly).trans ZY.out) rfl
 simp only [Act.put,List.setIfInBounds_toArray,List.set_cons_zero,List.set_cons_succ,List.getElem_toArray,List.getElem_cons_succ,List.getElem_cons_zero];refine wpAnyH_ready (rs:=[24]) (by kernel_rfl) (by simp) (AllReadyH.cons rfl (fun K hK=>?_) AllReadyH.nil);replace hK:=zid hK
 go_simp
 refine (SMY.out _ h5).mono ?_;rintro e w21 ⟨rfl,b16⟩;have h6:=h5.trans (b16.mono h5.size);clear b16;dsimp only;refine hK.out _ _ h6 (fun _=>?_);clear hK K h5;simp only [List.setIfInBounds_toArray,List.set_cons_zero,List.set_cons_succ];refine wpAnyH_take (i:=25) (v:= .bool true) rfl (by kernel_rfl) (by kernel_rfl) (by kernel_rfl) (fun _ _ _ h=>h) (Or.inl ⟨by kernel_rfl,fun W' hS=>?_⟩) h6 ?_
 · go_simp
 simp only [Act.put,List.setIfInBounds_toArray,List.set_cons_zero,List.set_cons_succ,List.getElem_toArray,List.getElem_cons_succ,List.getElem_cons_zero];refine wpAnyH_take (i:=26) (v:= .bool true) rfl (by kernel_rfl) (by kernel_rfl) (by kernel_rfl) (fun _ _ _ h=>h) (Or.inl ⟨by kernel_rfl,fun W' hS=>?_⟩) h6 ?_
 · go_simp
 simp only [Act.put,List.setIfInBounds_toArray,List.set_cons_zero,List.set_cons_succ,List.getElem_toArray,List.getElem_cons_succ,List.getElem_cons_zero];refine wpAnyH_take (i:=27) (v:= .bool true) rfl (by kernel_rfl) (by kernel_rfl) (by kernel_rfl) (fun _ _ _ h=>h) (Or.inl ⟨by kernel_rfl,fun W' hS=>?_⟩) h6 ?_
 · go_simp
 simp only [Act.put,List.setIfInBounds_toArray,List.set_cons_zero,List.set_cons_succ,List.getElem_toArray,List.getElem_cons_succ,List.getElem_cons_zero];refine wpAnyH_done (by kernel_rfl) ?_ _;have HQ:=zid h6;clear h6;go_wp2_with fail;go_ret;exact ⟨by first | rfl | simp,B12.out.trans (HQ.out.mono B12.out.size)⟩
theorem same16 (va ua:Option Addr) (vn vc un uc:Nat) (m n:Ms) (w:World) (hv:zae w (.slice va vn vc) m.l) (hu:zae w (.slice ua un uc) n.l):
 Calls Try.prog 6 #[zag (.slice va vn vc) m,zag (.slice ua un uc) n] w fun e w'=>e= .returned (.bool true)/\Below w.heap.size w w':=by
 rcases hm:zaJ m with _ | _
 · exact zcB va ua vn vc un uc m n w hv hu (.inl hm)
 · rcases hn:zaJ n with _ | _
   · exact zcB va ua vn vc un uc m n w hv hu (.inr ⟨hm,hn⟩)
   · exact zdL va ua vn vc un uc m n w hv hu hm hn
end Wr
end Go.Proofs.Ytmkdcpjlhphhiaa

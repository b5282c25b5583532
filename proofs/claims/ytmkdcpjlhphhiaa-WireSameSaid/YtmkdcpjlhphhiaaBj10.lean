/-
  Parts of what the laws of this seat stand on:WirPut,zbV,WirRd,RecOwn.
-/
import Derived.Test.YtmkdcpjlhphhiaaBj1
import Derived.Laws.BitsAllLaws
import Derived.Laws.IdiomStrings
import Derived.Laws.NewBlocks
import Derived.Laws.Rows
import Derived.Lib.Builder
import Derived.Lib.Hide
import Derived.Test.YtmkdcpjlhphhiaaBj3
import Derived.Test.YtmkdcpjlhphhiaaBj4
import Derived.Test.YtmkdcpjlhphhiaaBj9
import Derived.Test.YtmkdcpjlhphhiaaProg
import Derived.WalkKit
import Derived.WalkSpells
set_option maxRecDepth 100000
set_option maxHeartbeats 6400000
namespace Go.Proofs.Ytmkdcpjlhphhiaa
namespace Wr
open Go.RowKit Qm Wq Mfs
theorem zbR (l:List Int) (n:Nat) (cs:Array Value) (hcs:cs=(IL.vals l).toArray) (hn:n=l.length) (hl:l.length<=10) (hok:Nums l) (W:World) (g:Nat) (hg:W.heap.size=g):
 Calls Try.prog 20 #[.slice (some ⟨g,0,none⟩) n n] (W.alloc (.cells cs 3)).drew fun e w'=>e= .returned (.string ⟨(puts l).toArray⟩)/\Below W.heap.size W w':=by
 subst hcs hg;refine (zco _ n n l _ ((zcs W l n hn (by unfold maxLen;omega) (fun x hx=>?_)).keep (Below.refl _ _).drew) (by omega) hok).mono ?_
 · obtain ⟨i,hi,rfl⟩:=List.getElem_of_mem hx
   have:=hok i hi
   rw [show l.getD i 0=l[i] by simp [List.getD_eq_getElem?_getD,hi]] at this;exact ⟨by omega,this.2⟩
 · rintro e w' ⟨rfl,b⟩
   exact ⟨rfl,((Below.refl _ _).alloc (Nat.le_refl _) _).drew.trans (b.mono (by simp))⟩
theorem zcq {w w1 w2:World} {a i j:Nat} {x y:Value} (h:w1.cell? ⟨a,i,none⟩=some x/\w1.cell? ⟨a,j,none⟩=some y/\Below w.heap.size w w1) (k:Below w1.heap.size w1 w2):
 w2.cell? ⟨a,i,none⟩=some x/\w2.cell? ⟨a,j,none⟩=some y/\Below w.heap.size w w2:=
 ⟨(k.cell (p:=⟨a,i,none⟩) (block_lt_of_cell h.1)).trans h.1,(k.cell (p:=⟨a,j,none⟩) (block_lt_of_cell h.2.1)).trans h.2.1,h.2.2.trans (k.mono h.2.2.size)⟩
theorem zcF {w w1:World} {a i j:Nat} {x y:Value} (h:w1.cell? ⟨a,i,none⟩=some x/\w1.cell? ⟨a,j,none⟩=some y/\Below w.heap.size w w1):Below w.heap.size w w1:=h.2.2
theorem keep2d {w w1:World} {a i j:Nat} {x y:Value} (h:w1.cell? ⟨a,i,none⟩=some x/\w1.cell? ⟨a,j,none⟩=some y/\Below w.heap.size w w1) (o:Obj):
 (w1.alloc o).drew.cell? ⟨a,i,none⟩=some x/\(w1.alloc o).drew.cell? ⟨a,j,none⟩=some y/\Below w.heap.size w (w1.alloc o).drew:=zcq h ((Below.refl _ _).alloc (Nat.le_refl _) o).drew
theorem zcp {w w1 w2:World} {a i j i2 j2:Nat} {x y x2 y2:Value} (h:(w1.cell? ⟨a,i,none⟩=some x/\w1.cell? ⟨a,j,none⟩=some y/\Below w.heap.size w w1)/\w1.cell? ⟨a,i2,none⟩=some x2/\w1.cell? ⟨a,j2,none⟩=some y2) (k:Below w1.heap.size w1 w2):
 (w2.cell? ⟨a,i,none⟩=some x/\w2.cell? ⟨a,j,none⟩=some y/\Below w.heap.size w w2)/\w2.cell? ⟨a,i2,none⟩=some x2/\w2.cell? ⟨a,j2,none⟩=some y2:=
 ⟨zcq h.1 k,(k.cell (p:=⟨a,i2,none⟩) (block_lt_of_cell h.2.1)).trans h.2.1,(k.cell (p:=⟨a,j2,none⟩) (block_lt_of_cell h.2.2)).trans h.2.2⟩
theorem keep4d {w w1:World} {a i j i2 j2:Nat} {x y x2 y2:Value} (h:(w1.cell? ⟨a,i,none⟩=some x/\w1.cell? ⟨a,j,none⟩=some y/\Below w.heap.size w w1)/\w1.cell? ⟨a,i2,none⟩=some x2/\w1.cell? ⟨a,j2,none⟩=some y2) (o:Obj):
 ((w1.alloc o).drew.cell? ⟨a,i,none⟩=some x/\(w1.alloc o).drew.cell? ⟨a,j,none⟩=some y/\Below w.heap.size w (w1.alloc o).drew)/\(w1.alloc o).drew.cell? ⟨a,i2,none⟩=some x2/\(w1.alloc o).drew.cell? ⟨a,j2,none⟩=some y2:=zcp h ((Below.refl _ _).alloc (Nat.le_refl _) o).drew
theorem zdd (R F:List UInt8) (d:ByteArray):(⟨R.toArray⟩++⟨F.toArray⟩++d:ByteArray)=⟨(R++(F++d.data.toList)).toArray⟩:=by
 rw [ByteArray.mk_append_mk]
 apply ByteArray.ext
 simp
theorem zeD (v:Value) (m:Ms) (w:World) (hm:Fetch m):
 Calls Try.prog 21 #[zag v m] w fun e w'=>e= .returned (.string ⟨(za2 m).toArray⟩)/\Below w.heap.size w w':=by
 rw [zce hm.k]
 have NA:=zid (zem [m.wd,m.wt,m.x] 3 #[.int .i64 m.wd,.int .i64 m.wt,.int .i64 m.x] rfl rfl (by simp) (zbt fun y hy=>by
  have:=hm.wd0;have:=hm.wd1;have:=hm.wt0;have:=hm.wt1;have:=hm.x0;have:=hm.x1;simp only [List.mem_cons,List.not_mem_nil,or_false] at hy
  omega))
 have hk:=hm.k;clear hm;obtain ⟨k,f,t,i,p,q,a,wd,h,wt,x,z,s,d,l⟩:=m;unfold zag;dsimp only at*;subst hk;have HA:=zid ((Below.refl w.heap.size w).alloc (Nat.le_refl _) (.cells #[.int .i64 1,.int .i64 f,.int .i64 t,.int .i64 i,.int .i64 p,.int .i64 q,.int .i64 a,.int .i64 wd,.int .i64 h,.int .i64 wt,.int .i64 x,.int .i64 z,.int .u32 s,.string d,v] 25));obtain ⟨x0,x1,x2,x3,x4,x5,x6,x7,x8,x9,x10,x11,x12,x13,x14⟩:=zaa (zav w #[.int .i64 1,.int .i64 f,.int .i64 t,.int .i64 i,.int .i64 p,.int .i64 q,.int .i64 a,.int .i64 wd,.int .i64 h,.int .i64 wt,.int .i64 x,.int .i64 z,.int .u32 s,.string d,v]);generalize puts [wd,wt,x]=R at*
 go_enter Try.func21,Try.ntmps21
 go_wp2_with fail;refine (NA.out _ _ (by simp)).mono ?_;rintro e w2 ⟨rfl,b2⟩;have HA2:=zid (HA.out.trans (b2.mono HA.out.size));clear b2;go_wp2_with fail;go_ret;exact ⟨rfl,HA2.out⟩
theorem zeF (va:Option Addr) (vn vc:Nat) (m:Ms) (w:World) (hv:zae w (.slice va vn vc) m.l) (hm:Batch m):
 Calls Try.prog 21 #[zag (.slice va vn vc) m] w fun e w'=>e= .returned (.string ⟨(za2 m).toArray⟩)/\Below w.heap.size w w':=by
 rw [zcd hm.k];obtain ⟨hvl,hvm⟩:=za0 hv;rw [<-hvl];have NA:=zid (zbR [m.h,(vn:Int)] 2 #[.int .i64 m.h,.int .i64 (vn:Int)] rfl rfl (by simp) (zeP ⟨hm.h0,by have:=hm.h1;omega⟩ ⟨by omega,by omega⟩));have TA:=zid fun (W:World) (hW:Below w.heap.size w W)=>tad_any va vn vc m.l W (zab hv hW) hm.l.mem hm.l.1;have hk:=hm.k;have hp:=zaC [m.h,(vn:Int)];have hr:=zck m.l fun r hr=>(hm.l.mem r hr).2.2.2.2;have h64:=hm.l.1;clear hm hv hvl;obtain ⟨k,f,t,i,p,q,a,wd,h,wt,x,z,s,d,l⟩:=m;unfold zag;dsimp only at*;subst hk;have HA:=(Below.refl w.heap.size w).alloc (Nat.le_refl _) (.cells #[.int .i64 2,.int .i64 f,.int .i64 t,.int .i64 i,.int .i64 p,.int .i64 q,.int .i64 a,.int .i64 wd,.int .i64 h,.int .i64 wt,.int .i64 x,.int .i64 z,.int .u32 s,.string d,.slice va vn vc] 25);obtain ⟨x0,x1,x2,x3,x4,x5,x6,x7,x8,x9,x10,x11,x12,x13,x14⟩:=zaa (zav w #[.int .i64 2,.int .i64 f,.int .i64 t,.int .i64 i,.int .i64 p,.int .i64 q,.int .i64 a,.int .i64 wd,.int .i64 h,.int .i64 wt,.int .i64 x,.int .i64 z,.int .u32 s,.string d,.slice va vn vc]);have ST:=(⟨x8,x14,HA⟩:_/\_/\_);have hl2:([h,(vn:Int)]:List Int).length=2:=rfl;rw [hl2] at hp;generalize puts [h,(vn:Int)]=R at*;generalize zaA l=T at*
 have s1:¬9223372036854775807<R.length+T.length:=by omega
 clear hp hr h64 hl2 HA
 go_enter Try.func21,Try.ntmps21
 go_wp2_with fail;generalize World.alloc w _=w0 at ST x0 x1 x2 x3 x4 x5 x6 x7 x8 x9 x10 x11 x12 x13 x14 ⊢;clear x0 x1 x2 x3 x4 x5 x6 x7 x8 x9 x10 x11 x12 x13 x14
 go_region_held3 (fun W=>W.cell? ⟨w.heap.size,8,none⟩=some (.int .i64 h)/\W.cell? ⟨w.heap.size,14,none⟩=some (.slice va vn vc)/\Below w.heap.size w W) (first | with_reducible assumption | with_reducible exact keep2d ST _ | with_reducible exact keep2a ST _ | with_reducible exact zcq ST (Below.refl _ _).drew | with_reducible exact zcq ST (by assumption) | with_reducible exact zcq (by assumption) (by assumption) | fail) (first | (go_at_call 20;refine (NA.out _ _ (by simp)).mono ?_;rintro e w4 ⟨rfl,b4⟩) | (go_at_call 42;refine (TA.out _ (zcF (by assumption))).mono ?_;rintro e w4 ⟨rfl,b4⟩))
 rename_i hh;have HB:=zid (zcF hh);clear hh ST;go_wp2_with fail;go_ret;exact ⟨congrArg (fun y=>Ending.returned (Value.string y)) (ByteArray.mk_append_mk R T),HB.out⟩
theorem zeE (v:Value) (m:Ms) (w:World) (hm:Chunk m):
 Calls Try.prog 21 #[zag v m] w fun e w'=>e= .returned (.string ⟨(za2 m).toArray⟩)/\Below w.heap.size w w':=by
 rw [zcc hm.k];have NA:=zid (zbR [m.z,m.x] 2 #[.int .i64 m.z,.int .i64 m.x] rfl rfl (by simp) (zeP ⟨by have:=hm.z0;omega,by have:=hm.z1;omega⟩ ⟨hm.x0,by have:=hm.x1;have:=hm.z1;omega⟩));obtain ⟨S,hS⟩:∃S:Nat,m.s=(S:Int):=⟨m.s.toNat,by have:=hm.s0;omega⟩;have FA:=zid fun (W:World)=>zc5 S W (by have:=hm.s1;omega);have hk:=hm.k;have hd:=hm.d;have hp:=zaC [m.z,m.x];clear hm;obtain ⟨k,f,t,i,p,q,a,wd,h,wt,x,z,s,d,l⟩:=m;unfold zag;dsimp only at*;subst hk;subst hS;have HA:=(Below.refl w.heap.size w).alloc (Nat.le_refl _) (.cells #[.int .i64 3,.int .i64 f,.int .i64 t,.int .i64 i,.int .i64 p,.int .i64 q,.int .i64 a,.int .i64 wd,.int .i64 h,.int .i64 wt,.int .i64 x,.int .i64 z,.int .u32 (S:Int),.string d,v] 25);obtain ⟨x0,x1,x2,x3,x4,x5,x6,x7,x8,x9,x10,x11,x12,x13,x14⟩:=zaa (zav w #[.int .i64 3,.int .i64 f,.int .i64 t,.int .i64 i,.int .i64 p,.int .i64 q,.int .i64 a,.int .i64 wd,.int .i64 h,.int .i64 wt,.int .i64 x,.int .i64 z,.int .u32 (S:Int),.string d,v]);have ST:=(⟨⟨x11,x10,HA⟩,x12,x13⟩:(_/\_/\_)/\_/\_);have hl2:([z,x]:List Int).length=2:=rfl;rw [hl2] at hp;rw [Int.toNat_natCast];generalize puts [z,x]=R at*
 have s1:¬9223372036854775807<R.length+(zbT S).length:=by have:(zbT S).length=4:=rfl;omega
 have s2:¬9223372036854775807<R.length+(zbT S).length+d.size:=by have:(zbT S).length=4:=rfl;omega
 have HF:=zid (zbo S);generalize zbT S=F at*;clear hp hl2 HA hd
 go_enter Try.func21,Try.ntmps21
 go_wp2_with fail;generalize World.alloc w _=w0 at ST x0 x1 x2 x3 x4 x5 x6 x7 x8 x9 x10 x11 x12 x13 x14 ⊢;clear x0 x1 x2 x3 x4 x5 x6 x7 x8 x9 x10 x11 x12 x13 x14
 go_region_held3 (fun W=>(W.cell? ⟨w.heap.size,11,none⟩=some (.int .i64 z)/\W.cell? ⟨w.heap.size,10,none⟩=some (.int .i64 x)/\Below w.heap.size w W)/\W.cell? ⟨w.heap.size,12,none⟩=some (.int .u32 (S:Int))/\W.cell? ⟨w.heap.size,13,none⟩=some (.string d)) (first | with_reducible assumption | with_reducible exact keep4d ST _ | with_reducible exact keep4a ST _ | with_reducible exact zcp ST (Below.refl _ _).drew | with_reducible exact zcp ST (by assumption) | with_reducible exact zcp (by assumption) (by assumption) | fail) (first | (go_at_call 20;refine (NA.out _ _ (by simp)).mono ?_;rintro e w4 ⟨rfl,b4⟩) | (go_at_call 38;refine (FA.out _).mono ?_;rintro e w4 ⟨rfl,b4⟩))
 rename_i hh;have HB:=zid (zcF hh.1);clear hh ST;go_wp2_with fail;go_ret;exact ⟨congrArg (fun y=>Ending.returned (Value.string y)) (by rw [<-HF.out];exact zdd R F d),HB.out⟩
theorem tail_any (va:Option Addr) (vn vc:Nat) (m:Ms) (w:World) (hv:zae w (.slice va vn vc) m.l) (hm:Ok m):
 Calls Try.prog 21 #[zag (.slice va vn vc) m] w fun e w'=>e= .returned (.string ⟨(za2 m).toArray⟩)/\Below w.heap.size w w':=by
 rcases hm.2 with h | h | h
 · exact zeD _ m w h
 · exact zeF va vn vc m w hv h
 · exact zeE _ m w h
noncomputable def zao (m:Ms):Value:= .tuple #[.string ⟨(putW m).1.toArray⟩,.int .i64 (putW m).2]
theorem kb {b:Nat} {w0 W W':World} (h:(∀i,W.cell? ⟨b,i,none⟩=w0.cell? ⟨b,i,none⟩)/\Below w0.heap.size w0 W) (hb:Hid (b<w0.heap.size)) (k:Below W.heap.size W W'):(∀i,W'.cell? ⟨b,i,none⟩=w0.cell? ⟨b,i,none⟩)/\Below w0.heap.size w0 W':=
 ⟨fun i=>(k.cell (p:=⟨b,i,none⟩) (Nat.lt_of_lt_of_le hb.out h.2.size)).trans (h.1 i),h.2.trans (k.mono h.2.size)⟩
theorem kb0 {b:Nat} (w0:World) {W:World} (hb:Hid (b<w0.heap.size)) (k:Below w0.heap.size w0 W):(∀i,W.cell? ⟨b,i,none⟩=w0.cell? ⟨b,i,none⟩)/\Below w0.heap.size w0 W:=⟨fun i=>k.cell (p:=⟨b,i,none⟩) hb.out,k⟩
theorem kbd {b:Nat} (w0:World) (hb:Hid (b<w0.heap.size)) (o:Obj):(∀i,(w0.alloc o).drew.cell? ⟨b,i,none⟩=w0.cell? ⟨b,i,none⟩)/\Below w0.heap.size w0 (w0.alloc o).drew:=kb0 w0 hb ((Below.refl _ _).alloc (Nat.le_refl _) o).drew
theorem kbx {b:Nat} {w w0 W:World} (h:(∀i,W.cell? ⟨b,i,none⟩=w0.cell? ⟨b,i,none⟩)/\Below w0.heap.size w0 W) (hA:Hid (Below w.heap.size w w0)):Below w.heap.size w W:=hA.out.trans (h.2.mono hA.out.size)
theorem wput_no (va:Option Addr) (vn vc:Nat) (m:Ms) (w:World) (hv:zae w (.slice va vn vc) m.l) (hB:MsB m) (h:¬Ok m):
 Calls Try.prog 9 #[zag (.slice va vn vc) m] w fun e w'=>e= .returned (zao m)/\Below w.heap.size w w':=by
 unfold zao;rw [zdU h];dsimp only;have R:=fun (W:World) (hW:Below w.heap.size w W)=>zaK va vn vc m false W (zab hv hW) hB ⟨(fun h=>by cases h),fun h2=>absurd h2 h⟩;unfold zag at*;replace R:=zid R;clear hv hB h;obtain ⟨k,f,t,i,p,q,a,wd,h,wt,x,z,s,d,l⟩:=m;dsimp only at*;have HA:=zid ((Below.refl w.heap.size w).alloc (Nat.le_refl _) (.cells #[.int .i64 k,.int .i64 f,.int .i64 t,.int .i64 i,.int .i64 p,.int .i64 q,.int .i64 a,.int .i64 wd,.int .i64 h,.int .i64 wt,.int .i64 x,.int .i64 z,.int .u32 s,.string d,.slice va vn vc] 25));obtain ⟨x0,x1,x2,x3,x4,x5,x6,x7,x8,x9,x10,x11,x12,x13,x14⟩:=zaa (zav w #[.int .i64 k,.int .i64 f,.int .i64 t,.int .i64 i,.int .i64 p,.int .i64 q,.int .i64 a,.int .i64 wd,.int .i64 h,.int .i64 wt,.int .i64 x,.int .i64 z,.int .u32 s,.string d,.slice va vn vc])
 go_enter Try.func9,Try.ntmps9
 go_wp2_with fail;refine (R.out _ HA.out).mono ?_;rintro e w1 ⟨rfl,b1⟩;have HB:=zid (HA.out.trans (b1.mono HA.out.size));clear b1;go_wp2_with fail;go_ret2;exact ⟨rfl,HB.out⟩
theorem wput_yes (va:Option Addr) (vn vc:Nat) (m:Ms) (w:World) (hv:zae w (.slice va vn vc) m.l) (hB:MsB m) (h:Ok m):
 Calls Try.prog 9 #[zag (.slice va vn vc) m] w fun e w'=>e= .returned (zao m)/\Below w.heap.size w w':=by
 unfold zao;rw [zbs h];dsimp only;have R:=fun (W:World) (hW:Below w.heap.size w W)=>zaK va vn vc m true W (zab hv hW) hB ⟨fun _=>h,fun _=>rfl⟩;have T:=fun (W:World) (hW:Below w.heap.size w W)=>tail_any va vn vc m W (zab hv hW) h
 have NA:=zid (zbR (zan m) 7 #[.int .i64 m.k,.int .i64 m.f,.int .i64 m.t,.int .i64 m.i,.int .i64 m.p,.int .i64 m.q,.int .i64 m.a] rfl rfl (by simp [zan]) (zbt fun y hy=>by
  have:=zct h y hy
  omega))
 have HFR:=zid fun (W:World)=>(show Calls Try.prog 19 #[.string (⟨(puts (zan m)).toArray⟩++⟨(za2 m).toArray⟩)] W fun e w'=>e= .returned (.tuple #[.string ⟨(Fr.fr (body m)).toArray⟩,.int .i64 0])/\Below W.heap.size W w' from by
  have e1:(⟨(puts (zan m)).toArray⟩++⟨(za2 m).toArray⟩:ByteArray)=⟨(body m).toArray⟩:=ByteArray.mk_append_mk _ _;rw [e1]
  exact fput_yes ⟨(body m).toArray⟩ W (by rw [zai];exact body_may h))
 have hp:=zaC (zan m);have ht:=zd7 h;have hl7:(zan m).length=7:=rfl;rw [hl7] at hp
 have s1:¬9223372036854775807<(puts (zan m)).length+(za2 m).length:=by omega
 clear hp ht hl7 hv hB h;generalize puts (zan m)=P7 at*;generalize za2 m=TB at*;generalize Fr.fr (body m)=FR at*;unfold zag at*;replace R:=zid R;replace T:=zid T;obtain ⟨k,f,t,i,p,q,a,wd,h,wt,x,z,s,d,l⟩:=m;dsimp only at*;have HA:=zid ((Below.refl w.heap.size w).alloc (Nat.le_refl _) (.cells #[.int .i64 k,.int .i64 f,.int .i64 t,.int .i64 i,.int .i64 p,.int .i64 q,.int .i64 a,.int .i64 wd,.int .i64 h,.int .i64 wt,.int .i64 x,.int .i64 z,.int .u32 s,.string d,.slice va vn vc] 25));have G0:=zid (zav w #[.int .i64 k,.int .i64 f,.int .i64 t,.int .i64 i,.int .i64 p,.int .i64 q,.int .i64 a,.int .i64 wd,.int .i64 h,.int .i64 wt,.int .i64 x,.int .i64 z,.int .u32 s,.string d,.slice va vn vc]);obtain ⟨x0,x1,x2,x3,x4,x5,x6,x7,x8,x9,x10,x11,x12,x13,x14⟩:=zaa G0.out
 go_enter Try.func9,Try.ntmps9
 go_wp2_with fail;refine (R.out _ HA.out).mono ?_;rintro e w1 ⟨rfl,b1⟩;have HA1:=zid (HA.out.trans (b1.mono HA.out.size));have G1:=zid ((b1.block w.heap.size (by simp)).trans G0.out);have HLT:=zid (show w.heap.size<w1.heap.size from (Array.getElem?_eq_some_iff.1 G1.out).1);clear b1 x0 x1 x2 x3 x4 x5 x6 x7 x8 x9 x10 x11 x12 x13 x14 G0 HA R;go_wp2_with fail;obtain ⟨x0,x1,x2,x3,x4,x5,x6,x7,x8,x9,x10,x11,x12,x13,x14⟩:=zaa G1.out
 go_region_held3 (fun W=>(∀i,W.cell? ⟨w.heap.size,i,none⟩=w1.cell? ⟨w.heap.size,i,none⟩)/\Below w1.heap.size w1 W) (first | with_reducible assumption | with_reducible exact kbd w1 HLT _ | with_reducible exact kb0 w1 HLT (Below.refl _ _).drew | with_reducible exact kb0 w1 HLT (by assumption) | with_reducible exact kb (by assumption) HLT (by assumption) | fail) (first | (go_at_call 20;refine (NA.out _ _ (by simp)).mono ?_;rintro e w4 ⟨rfl,b4⟩) | (go_at_call 21;refine (T.out _ (kbx (by assumption) HA1)).mono ?_;rintro e w4 ⟨rfl,b4⟩) | (go_at_call 19;refine (HFR.out _).mono ?_;rintro e w4 ⟨rfl,b4⟩))
 rename_i hh;have HB:=zid (kbx hh HA1);clear hh;go_wp2_with fail;go_ret2;exact ⟨rfl,HB.out⟩
theorem zb1 (va:Option Addr) (vn vc:Nat) (m:Ms) (w:World) (hv:zae w (.slice va vn vc) m.l) (hB:MsB m):
 Calls Try.prog 9 #[zag (.slice va vn vc) m] w fun e w'=>e= .returned (zao m)/\Below w.heap.size w w':=by
 by_cases h:Ok m
 · exact wput_yes va vn vc m w hv hB h
 · exact wput_no va vn vc m w hv hB h
end Wr
section
open Go.RowKit Go.Lib
def zbV (w:World) (B:Nat) (l:List UInt8):Prop:=
 ∀j (h:j<l.length),w.cell? ⟨B,j,none⟩=some (.int .u8 (l[j].toNat:Int))/\w.frozen? ⟨B,j,none⟩=false
theorem zc6 (w:World) (s:ByteArray):∃cap W,(convert 9 38 (.string s)).run Try.prog w= .ok (.slice (some ⟨w.heap.size,0,none⟩) s.size cap) W/\
 zbV W w.heap.size s.data.toList/\Below w.heap.size w W/\w.heap.size<W.heap.size:=by
 refine ⟨_,_,run_bytes_of_string w 9 38 5 s Try.underlying9 Try.underlying38 Try.underlying5,?_,?_,?_⟩
 · intro j hj
   have hj':j<s.data.size:=by simpa using hj
   refine ⟨?_,?_⟩
   · exact (World.cell?_alloc_mark w.drew _ _ _ j).trans (by rw [bytesRow_at s _ j hj'];simp)
   · refine (World.frozen?_alloc_mark w.drew _ _ _ _ j).trans ?_
     have:j<(bytesRow s (grownCap w s.size 0 5)).size:=by unfold bytesRow;rw [Array.size_append,Array.size_map];omega
     rw [decide_eq_false (by omega)];rfl
 · exact (Below.drew (Below.refl _ _)).alloc (Nat.le_refl _) _
 · simp
end
namespace Wr
open Go.RowKit Qm Wq Mfs
def WR (r:Nat) (l:List UInt8) (b:Bool) (w:World):Prop:=w.heap[r]?=some (.cells #[.string ⟨l.toArray⟩,.bool b] 51 (0,0))
theorem WR.cells {r:Nat} {l:List UInt8} {b:Bool} {w:World} (h:WR r l b w):w.cell? ⟨r,0,none⟩=some (.string ⟨l.toArray⟩)/\w.cell? ⟨r,1,none⟩=some (.bool b)/\w.frozen? ⟨r,0,none⟩=false/\w.frozen? ⟨r,1,none⟩=false:=
 ⟨by rw [cell_of_row _ _ 0 _ _ _ h];rfl,by rw [cell_of_row _ _ 1 _ _ _ h];rfl,by unfold World.frozen?;rw [h];rfl,by unfold World.frozen?;rw [h];rfl⟩
theorem WR.lt {r:Nat} {l:List UInt8} {b:Bool} {w:World} (h:WR r l b w):r<w.heap.size:=(Array.getElem?_eq_some_iff.1 h).1
theorem WR.keep {r:Nat} {l:List UInt8} {b:Bool} {w w':World} (h:WR r l b w) (k:Below w.heap.size w w'):WR r l b w':=(k.block r h.lt).trans h
theorem WR.rest {r:Nat} {l l':List UInt8} {b:Bool} {w:World} (h:WR r l b w):WR r l' b (w.setCell ⟨r,0,none⟩ (.string ⟨l'.toArray⟩)):=heap_setCell_same w r 0 _ _ _ h
theorem WR.bad {r:Nat} {l:List UInt8} {b b':Bool} {w:World} (h:WR r l b w):WR r l b' (w.setCell ⟨r,1,none⟩ (.bool b')):=heap_setCell_same w r 1 _ _ _ h
theorem zax {w w1:World} (r:Nat) (h:Below w.heap.size w w1):w.grownBy w1 (some r):=⟨h.os,h.tape,h.output,h.size,fun k hk _=>h.block k hk⟩
theorem zad {w w1 w2:World} {r:Nat} (h:w.grownBy w1 (some r)) (k:w1.grownBy w2 (some r)):w.grownBy w2 (some r):=
 ⟨k.os.trans h.os,k.tape.trans h.tape,k.output.trans h.output,Nat.le_trans h.size k.size,fun i hi hn=>(k.block i (Nat.lt_of_lt_of_le hi h.size) hn).trans (h.block i hi hn)⟩
theorem zaf (w:World) (r o:Nat) (u:Value):w.grownBy (w.setCell ⟨r,o,none⟩ u) (some r):=
 ⟨rfl,rfl,rfl,by simp,fun k _ hk=>heap_setCell_other w ⟨r,o,none⟩ k u (fun e=>hk (by simp [e]))⟩
def WdOut (r:Nat) (v:Value) (l:List UInt8) (b:Bool) (w:World) (e:Ending) (w':World):Prop:=e= .returned v/\WR r l b w'/\w.grownBy w' (some r)
theorem zca (s:ByteArray) (q:Nat) (w:World) (h:q<=s.size):(Instr.slice 9 (.string s) (some (.int .i64 (q:Int))) none none).run Try.prog w= .ok (.string (s.extract q s.size)) w:=by
 have:=run_slice_string_l (P:=Try.prog) (t:=9) (w:=w) (s:=s) (ht:=Try.underlying9) .i64 (q:Int) (by omega) (by omega);rw [this,Int.toNat_natCast]
theorem zbx (l:List UInt8) (j:Nat):(⟨l.toArray⟩:ByteArray).extract j (⟨l.toArray⟩:ByteArray).size=⟨(l.drop j).toArray⟩:=(ext_drop ⟨l.toArray⟩ j).symm
theorem zaG (r:Nat) (l:List UInt8) (b:Bool) (w:World) (h:WR r l b w) (hl:l.length<=140737488351232):
 Calls Try.prog 45 #[.pointer (some ⟨r,0,none⟩)] w (WdOut r (.int .i64 (numR l b).1) (numR l b).2.1 (numR l b).2.2 w):=by
 obtain ⟨B,hB⟩:∃B:ByteArray,(⟨l.toArray⟩:ByteArray)=B:=⟨_,rfl⟩
 have hz:B.size=l.length:=by rw [<-hB];exact zai l
 have R:=fun W:World=>zeh B ((0:Nat):Int) W (by omega)
 have hD:B.data.toList.drop 0=l:=by rw [<-hB];rfl
 obtain ⟨c0,c1,f0,f1⟩:=h.cells;have H:=zid h;rw [hB] at c0
 rcases ht:Vp.take l with _ | ⟨n,j⟩
 · rw [zdq (by rw [hD];exact ht)] at R
   rw [zbF ht]
   dsimp only;replace R:=zid R;clear ht hD hB h
   go_enter Try.func45,Try.ntmps45
   go_wp2_with fail;refine (R.out _).mono ?_;rintro e w1 ⟨rfl,k,rfl⟩;have K:=zid (H.out.keep (zaw k));obtain ⟨d0,d1,g0,g1⟩:=K.out.cells;have G:=zid (zax r (zaw (w:=w) k));go_wp2_with fail;go_ret;exact ⟨rfl,K.out.bad,zad G.out (zaf _ _ _ _)⟩
 · obtain ⟨_,_,hj,_⟩:=Vp.take_some ht
   rw [zdp (q:=j) (by rw [hD];exact ht) (Nat.zero_add j)] at R
   rw [zbl ht];dsimp only;have HX:=zid (show B.extract j B.size=⟨(l.drop j).toArray⟩ by rw [<-hB];exact zbx l j);replace R:=zid R
   have h1:(0:Int)<=(j:Int):=by omega
   have h2:(j:Int)<=(B.size:Int):=by omega
   have HB:=zid hB;have hs:=fun W:World=>zca B j W (by omega);rw [HX.out] at hs;clear ht hD hB h
   go_enter Try.func45,Try.ntmps45
   go_wp2_with fail;refine (R.out _).mono ?_;rintro e w1 ⟨rfl,k,rfl⟩;have K:=zid (H.out.keep (zaw k));obtain ⟨d0,d1,g0,g1⟩:=K.out.cells;rw [HB.out] at d0;have G:=zid (zax r (zaw (w:=w) k));go_wp2_with fail;go_ret;exact ⟨rfl,K.out.rest,zad G.out (zaf _ _ _ _)⟩
def wup4 (l:List UInt8):Nat->Nat
 | 0=>0
 | k+1=>wup4 l k+256^k*(l.getD k 0).toNat
theorem wup4_all (l:List UInt8):wup4 l 4=val4 l:=by
 unfold val4;show 0+256^0*(l.getD 0 0).toNat+256^1*(l.getD 1 0).toNat+256^2*(l.getD 2 0).toNat+256^3*(l.getD 3 0).toNat=_;omega
theorem ze1 (l:List UInt8):∀k,wup4 l k<256^k
 | 0=>Nat.zero_lt_one
 | k+1=>by
  have:=ze1 l k;have:=(l.getD k 0).toNat_lt;show wup4 l k+256^k*(l.getD k 0).toNat<256^(k+1);rw [Nat.pow_succ];have h:256^k*(l.getD k 0).toNat<=256^k*255:=Nat.mul_le_mul_left _ (by omega);omega
theorem zd4 (a y k:Nat) (hk:k<4) (ha:a<256^k) (hy:y<256):bits .or .u32 (a:Int) ((y*256^k:Nat):Int)=((a+256^k*y:Nat):Int):=by
 have h1:256^k*y<=256^k*255:=Nat.mul_le_mul_left _ (by omega);have h2:256^k<=256^3:=Nat.pow_le_pow_right (by decide) (by omega)
 have e:(256:Nat)^k=2^(8*k):=by rw [Nat.pow_mul]
 rw [u32_or_nat a (y*256^k) (by omega) (by rw [Nat.mul_comm];omega)];rw [e,Nat.or_comm, <-Nat.shiftLeft_eq, <-Nat.shiftLeft_add_eq_or_of_lt (by rw [<-e];exact ha),Nat.shiftLeft_eq]
 congr 1
 rw [Nat.mul_comm,Nat.add_comm]
theorem ze2 (s:ByteArray) (q:Nat) (w:World) (h:q<=s.size):(Instr.slice 9 (.string s) none (some (.int .i64 (q:Int))) none).run Try.prog w= .ok (.string (s.extract 0 q)) w:=by
 have:=run_slice_string_h (P:=Try.prog) (t:=9) (w:=w) (s:=s) (ht:=Try.underlying9) .i64 (q:Int) (by omega) (by omega);rw [this,Int.toNat_natCast]
theorem zcI (l:List UInt8) (j:Nat):(⟨l.toArray⟩:ByteArray).extract 0 j=⟨(l.take j).toArray⟩:=by
 apply ByteArray.ext
 apply Array.ext'
 rw [zaN]
 simp
theorem zb9 (r:Nat) (n:Int) (l:List UInt8) (b:Bool) (w:World) (h:WR r l b w) (h0:0<=n):
 Calls Try.prog 48 #[.pointer (some ⟨r,0,none⟩),.int .i64 n] w (WdOut r (.string ⟨(zaE n l b).1.toArray⟩) (zaE n l b).2.1 (zaE n l b).2.2 w):=by
 obtain ⟨B,hB⟩:∃B:ByteArray,(⟨l.toArray⟩:ByteArray)=B:=⟨_,rfl⟩
 have hz:B.size=l.length:=by rw [<-hB];exact zai l
 obtain ⟨c0,c1,f0,f1⟩:=h.cells;have H:=zid h;rw [hB] at c0
 by_cases h4:(l.length:Int)<n
 · rw [zby b h4]
   dsimp only
   have h5:(B.size:Int)<n:=by omega
   clear hB h h4 hz
   go_enter Try.func48,Try.ntmps48
   go_wp2_with fail;go_ret;exact ⟨rfl,H.out.bad,zaf _ _ _ _⟩
 · rw [zaV b (by omega)]
   dsimp only
   obtain ⟨q,rfl⟩:∃q:Nat,n=(q:Int):=⟨n.toNat,by omega⟩;rw [Int.toNat_natCast]
   have hq:q<=B.size:=by omega
   have h5:decide ((B.size:Int)<(q:Int))=false:=by simp;omega
   have HX:=zid (show B.extract q B.size=⟨(l.drop q).toArray⟩ by rw [<-hB];exact zbx l q);have HY:=zid (show B.extract 0 q=⟨(l.take q).toArray⟩ by rw [<-hB];exact zcI l q);have hs:=fun W:World=>zca B q W hq;have ht:=fun W:World=>ze2 B q W hq;rw [HX.out] at hs;rw [HY.out] at ht;clear hB h h4 hz h0
   go_enter Try.func48,Try.ntmps48
   go_wp2_with fail;go_ret;exact ⟨rfl,H.out.rest,zaf _ _ _ _⟩
theorem zcf (l:List UInt8) (b:Bool):(sumR l b).2=(zaE 4 l b).2:=by
 unfold sumR zaE
 by_cases h:l.length<4
 · rw [if_pos h,if_pos (by omega)]
 · rw [if_neg h,if_neg (by omega)]
   rfl
theorem sumR_no {l:List UInt8} (b:Bool) (h:l.length<4):(sumR l b).1=0:=by unfold sumR;rw [if_pos h]
theorem sumR_yes {l:List UInt8} (b:Bool) (h:¬l.length<4):(sumR l b).1=(wup4 l 4:Nat):=by unfold sumR;rw [if_neg h,wup4_all]
theorem wsum_any (r:Nat) (l:List UInt8) (b:Bool) (w:World) (h:WR r l b w):
 Calls Try.prog 47 #[.pointer (some ⟨r,0,none⟩)] w (WdOut r (.int .u32 (sumR l b).1) (sumR l b).2.1 (sumR l b).2.2 w):=by
 have T:=zid (zb9 r 4 l b w h (by decide));rw [zcf l b]
 by_cases h4:l.length<4
 · rw [sumR_no b h4]
   have e1:(zaE 4 l b).1=[]:=by rw [zby b (by omega)]
   rw [e1] at T;clear h h4 e1
   go_enter Try.func47,Try.ntmps47
   go_wp2_with fail;refine T.out.mono ?_;rintro e w1 ⟨rfl,h1,g1⟩;obtain ⟨cap,W,hcv,HBA,hbW,hlW⟩:=zc6 w1 ⟨([]:List UInt8).toArray⟩;rw [zai] at hcv;have H1:=zid (h1.keep hbW);have G1:=zid (zad g1 (zax r hbW));clear h1 g1 HBA hbW hlW;go_wp2_with fail;refine wp_loop_rounds 1 ?_;rw [rounds_succ];go_wp2_with fail;go_ret;exact ⟨rfl,H1.out,G1.out⟩
 · rw [sumR_yes b h4]
   have e1:(zaE 4 l b).1=l.take 4:=by rw [zaV b (by omega)];rfl
   rw [e1] at T
   have HG:=zid (show ∀k,k<4->∀(h:k<(l.take 4).length),((l.take 4)[k]'h).toNat=(l.getD k 0).toNat from fun k hk h=>by
    have hk':k<l.length:=by omega
    rw [List.getElem_take,List.getD_eq_getElem?_getD,List.getElem?_eq_getElem hk']
    rfl)
   have hl4:(l.take 4).length=4:=by rw [List.length_take];omega
   generalize l.take 4=L4 at*;clear h h4 e1
   go_enter Try.func47,Try.ntmps47
   go_wp2_with fail;refine T.out.mono ?_;rintro e w1 ⟨rfl,h1,g1⟩;obtain ⟨cap,W,hcv,hBA,hbW,hlW⟩:=zc6 w1 ⟨L4.toArray⟩;rw [zai,hl4] at hcv;have H1:=zid (h1.keep hbW);have G1:=zid (zad g1 (zax r hbW));have HBA:=zid hBA;have HL4:=zid hl4;clear h1 g1 hBA hbW hlW hl4;go_wp2_with fail
   go_loop [3,10] (fun s i=>∃k:Nat,k<=4/\i= .int .i64 k/\s= .int .u32 (wup4 l k:Nat)) (fun _ i=>4-(intOf i).toNat)
   case atStart=>exact ⟨0,by omega,rfl,rfl⟩
   case round=>
    obtain ⟨k,hk,rfl,rfl⟩:=hrel
    have hc:k=4\/k<4:=by omega
    by_cases hlt:k<4
    · have hkL:k<L4.length:=by rw [HL4.out];exact hlt
      have cb:=(HBA.out k hkL).1
      rw [show ((⟨L4.toArray⟩:ByteArray).data.toList[k]'hkL).toNat=(l.getD k 0).toNat from HG.out k hlt hkL] at cb;have hy:=(l.getD k 0).toNat_lt;have hu:=ze1 l k;have HU:=zid (show wup4 l (k+1)=wup4 l k+256^k*(l.getD k 0).toNat from rfl);clear hkL;generalize (l.getD k 0).toNat=y at*;generalize wup4 l k=a at*
      have hk4:k=0\/k=1\/k=2\/k=3:=by omega
      rcases hk4 with rfl | rfl | rfl | rfl
      · have HO:=zid (zd4 a y 0 (by decide) hu hy)
        go_wp2_with fail
        go_round
        case rel=>exact ⟨1,by decide,rfl,congrArg (Value.int .u32) (by have h:=HO.out;rw [Nat.pow_zero,Nat.mul_one] at h;rw [HU.out,Nat.pow_zero];exact h)⟩
        case measure=>simp [intOf]
      · have HO:=zid (zd4 a y 1 (by decide) hu hy)
        go_wp2_with fail
        go_round
        case rel=>exact ⟨2,by decide,rfl,congrArg (Value.int .u32) (by rw [HU.out];exact HO.out)⟩
        case measure=>simp [intOf]
      · have HO:=zid (zd4 a y 2 (by decide) hu hy)
        go_wp2_with fail
        go_round
        case rel=>exact ⟨3,by decide,rfl,congrArg (Value.int .u32) (by rw [HU.out];exact HO.out)⟩
        case measure=>simp [intOf]
      · have HO:=zid (zd4 a y 3 (by decide) hu hy)
        go_wp2_with fail
        go_round
        case rel=>exact ⟨4,by decide,rfl,congrArg (Value.int .u32) (by rw [HU.out];exact HO.out)⟩
        case measure=>simp [intOf]
    · obtain rfl:k=4:=by omega
      go_wp2_with fail
      go_ret;exact ⟨rfl,H1.out,G1.out⟩
end Wr
section
open Go.RowKit
def zaj (rs:List Rp.Rec):List Value:=rs.flatMap fun r=>[.int .i64 r.a,.int .i64 r.t,.string r.d]
theorem zaX (rs:List Rp.Rec):(zaj rs).length=rs.length*3:=by
 induction rs with
 | nil=>rfl
 | cons r rs ih=>simp [zaj] at ih ⊢;omega
theorem zbj (rs:List Rp.Rec) (r:Rp.Rec):zaj (rs++[r])=zaj rs++[.int .i64 r.a,.int .i64 r.t,.string r.d]:=by simp [zaj]
theorem zcl (rs:List Rp.Rec):∀i,i<rs.length->(zaj rs)[i*3]?=some (.int .i64 (rs.getD i Rp.zero).a)/\(zaj rs)[i*3+1]?=some (.int .i64 (rs.getD i Rp.zero).t)/\(zaj rs)[i*3+2]?=some (.string (rs.getD i Rp.zero).d):=by
 induction rs with
 | nil=>intro i hi;simp at hi
 | cons r rs ih=>
  intro i hi;have e:zaj (r::rs)= .int .i64 r.a:: .int .i64 r.t:: .string r.d::zaj rs:=rfl;rw [e]
  cases i with
  | zero=>exact ⟨rfl,rfl,rfl⟩
  | succ i=>
   have h:=ih i (by simpa using hi);rw [show (i+1)*3=i*3+3 from by omega]
   simpa using h
theorem zb5:(Try.prog.info? 41).map (fun i=>(i.zero,i.size,i.bytes))=some (some (.agg #[.int .i64 0,.int .i64 0,.string ByteArray.empty]),3,32):=by kernel_rfl
theorem zae.own_ok {w:World} {base n:Nat} {v:Value} {rs:List Rp.Rec} (h:w.ownsRow base 41 3 v n (zaj rs)) (hm:n<=maxLen) (hb:∀r∈rs,RecOk r):zae w v rs:=by
 have hn:n=rs.length:=by have:=h.1;rw [zaX] at this;omega
 subst hn
 rcases h.2 with ⟨rfl,h0⟩ | ⟨g,cap,cur,rfl,h1⟩
 · have:rs=[]:=by simpa using h0
   subst this
   exact zae.nil w none 0
 · refine ⟨some ⟨g,0,none⟩,cap,rfl,hm,hb,.inr ⟨g,0,rfl,fun i hi=>?_⟩⟩
   obtain ⟨c0,c1,c2⟩:=zcl rs i hi
   have k0:=h.cells (g:=g) rfl _ _ c0;have k1:=h.cells (g:=g) rfl _ _ c1;have k2:=h.cells (g:=g) rfl _ _ c2;rw [zcx] at k0 k1 k2;exact ⟨k0,k1,k2⟩
end
end Go.Proofs.Ytmkdcpjlhphhiaa

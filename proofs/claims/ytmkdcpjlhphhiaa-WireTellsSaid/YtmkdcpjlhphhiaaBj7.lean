/-
  Parts of what the laws of this seat stand on:WirRref2,WirRref3,VarRref,FrameRef,RecRef.
-/
import Derived.Test.YtmkdcpjlhphhiaaBj1
import Derived.Deep.DeepCutAuto
import Derived.Deep.RegionHeld3
import Derived.Deep.RegionWith
import Derived.IntWalk
import Derived.Lib.Hide
import Derived.Lib.Strings
import Derived.Test.YtmkdcpjlhphhiaaBj2
import Derived.Test.YtmkdcpjlhphhiaaBj3
import Derived.Test.YtmkdcpjlhphhiaaBj4
import Derived.Test.YtmkdcpjlhphhiaaBj6
set_option maxRecDepth 100000
set_option maxHeartbeats 6400000
namespace Go.Proofs.Ytmkdcpjlhphhiaa
namespace Wr
open Go.RowKit Qm Wq Mfs
theorem zdj (v:Value) (m:Ms) (w:World) (h:¬Head m):
 Calls Try.prog 14 #[zag v m] w fun e w'=>e= .returned (.bool false)/\Below w.heap.size w w':=by
 have D:=doc_head m false ⟨(fun h=>by cases h),fun h2=>absurd h2.1 h⟩;have C:=zid fun (n hi:Int) (W:World)=>zaP n hi W;have HX:=zid h;clear h;obtain ⟨k,f,t,i,p,q,a,wd,h,wt,x,z,s,d,l⟩:=m;unfold zag;dsimp only at*;have HA:=zid ((Below.refl w.heap.size w).alloc (Nat.le_refl _) (.cells #[.int .i64 k,.int .i64 f,.int .i64 t,.int .i64 i,.int .i64 p,.int .i64 q,.int .i64 a,.int .i64 wd,.int .i64 h,.int .i64 wt,.int .i64 x,.int .i64 z,.int .u32 s,.string d,v] 25));obtain ⟨x0,x1,x2,x3,x4,x5,x6,x7,x8,x9,x10,x11,x12,x13,x14⟩:=zaa (zav w #[.int .i64 k,.int .i64 f,.int .i64 t,.int .i64 i,.int .i64 p,.int .i64 q,.int .i64 a,.int .i64 wd,.int .i64 h,.int .i64 wt,.int .i64 x,.int .i64 z,.int .u32 s,.string d,v])
 rcases D with ⟨h1,h0⟩ | ⟨h1,h2,h0⟩ | ⟨h1,h2,h3,h0⟩ | ⟨h1,h2,h3,h4,h0⟩ | ⟨h1,h2,h3,h4,h5,h0⟩ | ⟨h1,h2,h3,h4,h5,h6,h0⟩ | ⟨h1,h2,h3,h4,h5,h6,h7,h0⟩ | ⟨h1,h2,h3,h4,h5,h6,h7,h8,h0⟩ | ⟨h1,h2,h3,h4,h5,h6,h7,h8,h0⟩
 iterate 8
  · clear h0 HX
    go_enter Try.func14,Try.ntmps14
    go_wp2_with ((with_reducible refine (C.out _ _ _).mono ?_);rintro e w' ⟨rfl,rfl⟩)
    go_ret;exact ⟨rfl,HA.out⟩
 · exfalso
   apply HX.out
   have a1:=zak h1;have a2:=zak h2;have a4:=zak h5;have a5:=zak h6;have a6:=zak h7;have a7:=zak h8;exact ⟨a1.1,a1.2,a2.1,a2.2,by simpa using h3,by simp at h4;omega,a4.2,a5.1,a5.2,a6.1,a6.2,a7.1,a7.2⟩
theorem zaz (W:World) (k j o:Nat) (x:Value) (h:k≠j):(W.setCell ⟨j,o,none⟩ x).heap[k]?=W.heap[k]?:=heap_setCell_other W ⟨j,o,none⟩ k x h
theorem zbu {m:Ms} (h:Head m):inI m.f 0 7=true/\inI m.t 0 7=true/\(m.f==m.t)=false/\decide (m.i<1)=false/\inI m.i 0 1099511627776=true/\inI m.p 0 1099511627776=true/\inI m.q 0 1099511627776=true/\inI m.a 0 1099511627776=true:=
 ⟨zbH h.f0 h.f1,zbH h.t0 h.t1,by have:=h.ne;simpa using this,by have:=h.i0;simp;omega,zbH (by have:=h.i0;omega) h.i1,zbH h.p0 h.p1,zbH h.q0 h.q1,zbH h.a0 h.a1⟩
theorem zcO (va:Option Addr) (vn vc:Nat) (m:Ms) (b:Bool) (w:World) (hv:zae w (.slice va vn vc) m.l) (hh:Head m) (hk:m.k=1) (hb:b=true↔Tail m):
 Calls Try.prog 14 #[zag (.slice va vn vc) m] w fun e w'=>e= .returned (.bool b)/\Below w.heap.size w w':=by
 obtain ⟨h1,h2,h3,h4,h5,h6,h7,h8⟩:=zbu hh;obtain ⟨c,hc,D⟩:=zdR m b hk hb;have C:=zid fun (n hi:Int) (W:World)=>zaP n hi W;have S:=zid fun (W:World) (hW:Below w.heap.size w W)=>zaL none 0 0 va vn vc (fet m) m c W (zae.nil _ _ _) (zab hv hW) hc;clear hb hc hv hh;obtain ⟨k,f,t,i,p,q,a,wd,h,wt,x,z,s,d,l⟩:=m;unfold zag fet at*;dsimp only at*;subst hk;have HA:=zid ((Below.refl w.heap.size w).alloc (Nat.le_refl _) (.cells #[.int .i64 1,.int .i64 f,.int .i64 t,.int .i64 i,.int .i64 p,.int .i64 q,.int .i64 a,.int .i64 wd,.int .i64 h,.int .i64 wt,.int .i64 x,.int .i64 z,.int .u32 s,.string d,.slice va vn vc] 25));have G1:=zid (zav w #[.int .i64 1,.int .i64 f,.int .i64 t,.int .i64 i,.int .i64 p,.int .i64 q,.int .i64 a,.int .i64 wd,.int .i64 h,.int .i64 wt,.int .i64 x,.int .i64 z,.int .u32 s,.string d,.slice va vn vc]);obtain ⟨x0,x1,x2,x3,x4,x5,x6,x7,x8,x9,x10,x11,x12,x13,x14⟩:=zaa G1.out
 go_enter Try.func14,Try.ntmps14
 go_wp2_with ((with_reducible refine (C.out _ _ _).mono ?_);rintro e w' ⟨rfl,rfl⟩)
 have G2:=zid (zav (w.alloc (.cells #[.int .i64 1,.int .i64 f,.int .i64 t,.int .i64 i,.int .i64 p,.int .i64 q,.int .i64 a,.int .i64 wd,.int .i64 h,.int .i64 wt,.int .i64 x,.int .i64 z,.int .u32 s,.string d,.slice va vn vc] 25)) #[.int .i64 1,.int .i64 f,.int .i64 t,.int .i64 i,.int .i64 p,.int .i64 q,.int .i64 a,.int .i64 0,.int .i64 0,.int .i64 0,.int .i64 0,.int .i64 0,.int .u32 0,.string ⟨#[]⟩,.slice none 0 0]);have G3:=zid ((Below.heap_alloc (w.alloc (.cells #[.int .i64 1,.int .i64 f,.int .i64 t,.int .i64 i,.int .i64 p,.int .i64 q,.int .i64 a,.int .i64 wd,.int .i64 h,.int .i64 wt,.int .i64 x,.int .i64 z,.int .u32 s,.string d,.slice va vn vc] 25)) (.cells #[.int .i64 1,.int .i64 f,.int .i64 t,.int .i64 i,.int .i64 p,.int .i64 q,.int .i64 a,.int .i64 0,.int .i64 0,.int .i64 0,.int .i64 0,.int .i64 0,.int .u32 0,.string ⟨#[]⟩,.slice none 0 0] 25) w.heap.size (by simp)).trans G1.out);have HA2:=zid (HA.out.alloc HA.out.size (.cells #[.int .i64 1,.int .i64 f,.int .i64 t,.int .i64 i,.int .i64 p,.int .i64 q,.int .i64 a,.int .i64 0,.int .i64 0,.int .i64 0,.int .i64 0,.int .i64 0,.int .u32 0,.string ⟨#[]⟩,.slice none 0 0] 25));rw [show (w.alloc (.cells #[.int .i64 1,.int .i64 f,.int .i64 t,.int .i64 i,.int .i64 p,.int .i64 q,.int .i64 a,.int .i64 wd,.int .i64 h,.int .i64 wt,.int .i64 x,.int .i64 z,.int .u32 s,.string d,.slice va vn vc] 25)).heap.size=w.heap.size+1 by simp] at G2;clear G1 HA x0 x1 x2 x3 x4 x5 x6 x7 x8 x9 x10 x11 x12 x13 x14;generalize (w.alloc _).alloc _=W0 at G2 G3 HA2 ⊢;obtain ⟨x0,x1,x2,x3,x4,x5,x6,x7,x8,x9,x10,x11,x12,x13,x14⟩:=zaa G3.out;obtain ⟨y0,y1,y2,y3,y4,y5,y6,y7,y8,y9,y10,y11,y12,y13,y14⟩:=zaa G2.out;have z7:=zac G2.out 7;have z9:=zac G2.out 9;have z10:=zac G2.out 10
 go_region_held3 (fun W=>W.cell? ⟨w.heap.size,7,none⟩=some (.int .i64 wd)/\W.cell? ⟨w.heap.size,9,none⟩=some (.int .i64 wt)/\W.cell? ⟨w.heap.size,10,none⟩=some (.int .i64 x)) (go_keep) (fail)
 rename_i hh;clear hh x0 x1 x2 x3 x4 x5 x6 x7 x8 x9 x10 x11 x12 x13 x14 y0 y1 y2 y3 y4 y5 y6 y7 y8 y9 y10 y11 y12 y13 y14 z7 z9 z10
 have G4:=zid (show (((W0.setCell ⟨w.heap.size+1,7,none⟩ (.int .i64 wd)).setCell ⟨w.heap.size+1,9,none⟩ (.int .i64 wt)).setCell ⟨w.heap.size+1,10,none⟩ (.int .i64 x)).drew.heap[w.heap.size+1]?=some (.cells #[.int .i64 1,.int .i64 f,.int .i64 t,.int .i64 i,.int .i64 p,.int .i64 q,.int .i64 a,.int .i64 wd,.int .i64 0,.int .i64 wt,.int .i64 x,.int .i64 0,.int .u32 0,.string ⟨#[]⟩,.slice none 0 0] 25 (0,0)) from
  heap_setCell_same _ _ 10 _ _ _ (heap_setCell_same _ _ 9 _ _ _ (heap_setCell_same W0 _ 7 _ _ _ G2.out)))
 have G5:=zid (show (((W0.setCell ⟨w.heap.size+1,7,none⟩ (.int .i64 wd)).setCell ⟨w.heap.size+1,9,none⟩ (.int .i64 wt)).setCell ⟨w.heap.size+1,10,none⟩ (.int .i64 x)).drew.heap[w.heap.size]?=some (.cells #[.int .i64 1,.int .i64 f,.int .i64 t,.int .i64 i,.int .i64 p,.int .i64 q,.int .i64 a,.int .i64 wd,.int .i64 h,.int .i64 wt,.int .i64 x,.int .i64 z,.int .u32 s,.string d,.slice va vn vc] 25 (0,0)) from
  (zaz _ _ _ _ _ (by omega)).trans ((zaz _ _ _ _ _ (by omega)).trans ((zaz W0 _ _ _ _ (by omega)).trans G3.out)))
 have HA3:=zid ((((HA2.out.setCell (p:=⟨w.heap.size+1,7,none⟩) (by simp) (.int .i64 wd)).setCell (p:=⟨w.heap.size+1,9,none⟩) (by simp) (.int .i64 wt)).setCell (p:=⟨w.heap.size+1,10,none⟩) (by simp) (.int .i64 x)).drew);clear G2 G3 HA2;generalize (((W0.setCell _ _).setCell _ _).setCell _ _).drew=W1 at G4 G5 HA3 ⊢;have S1:=zid (S.out W1 HA3.out);clear S;obtain ⟨x0,x1,x2,x3,x4,x5,x6,x7,x8,x9,x10,x11,x12,x13,x14⟩:=zaa G5.out;obtain ⟨y0,y1,y2,y3,y4,y5,y6,y7,y8,y9,y10,y11,y12,y13,y14⟩:=zaa G4.out
 rcases D with ⟨rfl,rfl⟩ | ⟨rfl,d1,rfl⟩ | ⟨rfl,d1,d2,rfl⟩ | ⟨rfl,d1,d2,d3⟩
 all_goals
  go_wp2_with fail
  refine S1.out.mono ?_;rintro e w2 ⟨rfl,b2⟩;have HA4:=zid (HA3.out.trans (b2.mono HA3.out.size));obtain ⟨u0,u1,u2,u3,u4,u5,u6,u7,u8,u9,u10,u11,u12,u13,u14⟩:=zaa ((b2.block w.heap.size (Array.getElem?_eq_some_iff.1 G5.out).1).trans G5.out);clear b2
  go_wp2_with ((with_reducible refine (C.out _ _ _).mono ?_);rintro e w' ⟨rfl,rfl⟩)
  go_ret;exact ⟨rfl,HA4.out⟩
theorem zcP (va:Option Addr) (vn vc:Nat) (m:Ms) (b:Bool) (w:World) (hv:zae w (.slice va vn vc) m.l) (hs:0<=m.s/\m.s<4294967296) (hh:Head m) (hk:m.k=3) (hb:b=true↔Tail m):
 Calls Try.prog 14 #[zag (.slice va vn vc) m] w fun e w'=>e= .returned (.bool b)/\Below w.heap.size w w':=by
 obtain ⟨h1,h2,h3,h4,h5,h6,h7,h8⟩:=zbu hh;obtain ⟨c,hc,D⟩:=zdS m b hk hs hb;have C:=zid fun (n hi:Int) (W:World)=>zaP n hi W;have S:=zid fun (W:World) (hW:Below w.heap.size w W)=>zaL none 0 0 va vn vc (chu m) m c W (zae.nil _ _ _) (zab hv hW) hc;clear hb hc hv hh hs;obtain ⟨k,f,t,i,p,q,a,wd,h,wt,x,z,s,d,l⟩:=m;unfold zag chu at*;dsimp only at*;subst hk;have HA:=zid ((Below.refl w.heap.size w).alloc (Nat.le_refl _) (.cells #[.int .i64 3,.int .i64 f,.int .i64 t,.int .i64 i,.int .i64 p,.int .i64 q,.int .i64 a,.int .i64 wd,.int .i64 h,.int .i64 wt,.int .i64 x,.int .i64 z,.int .u32 s,.string d,.slice va vn vc] 25));have G1:=zid (zav w #[.int .i64 3,.int .i64 f,.int .i64 t,.int .i64 i,.int .i64 p,.int .i64 q,.int .i64 a,.int .i64 wd,.int .i64 h,.int .i64 wt,.int .i64 x,.int .i64 z,.int .u32 s,.string d,.slice va vn vc]);obtain ⟨x0,x1,x2,x3,x4,x5,x6,x7,x8,x9,x10,x11,x12,x13,x14⟩:=zaa G1.out
 go_enter Try.func14,Try.ntmps14
 go_wp2_with ((with_reducible refine (C.out _ _ _).mono ?_);rintro e w' ⟨rfl,rfl⟩)
 have G2:=zid (zav (w.alloc (.cells #[.int .i64 3,.int .i64 f,.int .i64 t,.int .i64 i,.int .i64 p,.int .i64 q,.int .i64 a,.int .i64 wd,.int .i64 h,.int .i64 wt,.int .i64 x,.int .i64 z,.int .u32 s,.string d,.slice va vn vc] 25)) #[.int .i64 3,.int .i64 f,.int .i64 t,.int .i64 i,.int .i64 p,.int .i64 q,.int .i64 a,.int .i64 0,.int .i64 0,.int .i64 0,.int .i64 0,.int .i64 0,.int .u32 0,.string ⟨#[]⟩,.slice none 0 0]);have G3:=zid ((Below.heap_alloc (w.alloc (.cells #[.int .i64 3,.int .i64 f,.int .i64 t,.int .i64 i,.int .i64 p,.int .i64 q,.int .i64 a,.int .i64 wd,.int .i64 h,.int .i64 wt,.int .i64 x,.int .i64 z,.int .u32 s,.string d,.slice va vn vc] 25)) (.cells #[.int .i64 3,.int .i64 f,.int .i64 t,.int .i64 i,.int .i64 p,.int .i64 q,.int .i64 a,.int .i64 0,.int .i64 0,.int .i64 0,.int .i64 0,.int .i64 0,.int .u32 0,.string ⟨#[]⟩,.slice none 0 0] 25) w.heap.size (by simp)).trans G1.out);have HA2:=zid (HA.out.alloc HA.out.size (.cells #[.int .i64 3,.int .i64 f,.int .i64 t,.int .i64 i,.int .i64 p,.int .i64 q,.int .i64 a,.int .i64 0,.int .i64 0,.int .i64 0,.int .i64 0,.int .i64 0,.int .u32 0,.string ⟨#[]⟩,.slice none 0 0] 25));rw [show (w.alloc (.cells #[.int .i64 3,.int .i64 f,.int .i64 t,.int .i64 i,.int .i64 p,.int .i64 q,.int .i64 a,.int .i64 wd,.int .i64 h,.int .i64 wt,.int .i64 x,.int .i64 z,.int .u32 s,.string d,.slice va vn vc] 25)).heap.size=w.heap.size+1 by simp] at G2;clear G1 HA x0 x1 x2 x3 x4 x5 x6 x7 x8 x9 x10 x11 x12 x13 x14;generalize (w.alloc _).alloc _=W0 at G2 G3 HA2 ⊢;obtain ⟨x0,x1,x2,x3,x4,x5,x6,x7,x8,x9,x10,x11,x12,x13,x14⟩:=zaa G3.out;obtain ⟨y0,y1,y2,y3,y4,y5,y6,y7,y8,y9,y10,y11,y12,y13,y14⟩:=zaa G2.out;have z11:=zac G2.out 11;have z12:=zac G2.out 12;have z10:=zac G2.out 10;have z13:=zac G2.out 13
 go_region_held3 (fun W=>W.cell? ⟨w.heap.size,11,none⟩=some (.int .i64 z)/\W.cell? ⟨w.heap.size,12,none⟩=some (.int .u32 s)/\W.cell? ⟨w.heap.size,10,none⟩=some (.int .i64 x)/\W.cell? ⟨w.heap.size,13,none⟩=some (.string d)) (go_keep) (fail)
 rename_i hh;clear hh x0 x1 x2 x3 x4 x5 x6 x7 x8 x9 x10 x11 x12 x13 x14 y0 y1 y2 y3 y4 y5 y6 y7 y8 y9 y10 y11 y12 y13 y14 z11 z12 z10 z13
 have G4:=zid (show ((((W0.setCell ⟨w.heap.size+1,11,none⟩ (.int .i64 z)).setCell ⟨w.heap.size+1,12,none⟩ (.int .u32 s)).setCell ⟨w.heap.size+1,10,none⟩ (.int .i64 x)).setCell ⟨w.heap.size+1,13,none⟩ (.string d)).drew.heap[w.heap.size+1]?=some (.cells #[.int .i64 3,.int .i64 f,.int .i64 t,.int .i64 i,.int .i64 p,.int .i64 q,.int .i64 a,.int .i64 0,.int .i64 0,.int .i64 0,.int .i64 x,.int .i64 z,.int .u32 s,.string d,.slice none 0 0] 25 (0,0)) from
  heap_setCell_same _ _ 13 _ _ _ (heap_setCell_same _ _ 10 _ _ _ (heap_setCell_same _ _ 12 _ _ _ (heap_setCell_same W0 _ 11 _ _ _ G2.out))))
 have G5:=zid (show ((((W0.setCell ⟨w.heap.size+1,11,none⟩ (.int .i64 z)).setCell ⟨w.heap.size+1,12,none⟩ (.int .u32 s)).setCell ⟨w.heap.size+1,10,none⟩ (.int .i64 x)).setCell ⟨w.heap.size+1,13,none⟩ (.string d)).drew.heap[w.heap.size]?=some (.cells #[.int .i64 3,.int .i64 f,.int .i64 t,.int .i64 i,.int .i64 p,.int .i64 q,.int .i64 a,.int .i64 wd,.int .i64 h,.int .i64 wt,.int .i64 x,.int .i64 z,.int .u32 s,.string d,.slice va vn vc] 25 (0,0)) from
  (zaz _ _ _ _ _ (by omega)).trans ((zaz _ _ _ _ _ (by omega)).trans ((zaz _ _ _ _ _ (by omega)).trans ((zaz W0 _ _ _ _ (by omega)).trans G3.out))))
 have HA3:=zid (((((HA2.out.setCell (p:=⟨w.heap.size+1,11,none⟩) (by simp) (.int .i64 z)).setCell (p:=⟨w.heap.size+1,12,none⟩) (by simp) (.int .u32 s)).setCell (p:=⟨w.heap.size+1,10,none⟩) (by simp) (.int .i64 x)).setCell (p:=⟨w.heap.size+1,13,none⟩) (by simp) (.string d)).drew);clear G2 G3 HA2;generalize ((((W0.setCell _ _).setCell _ _).setCell _ _).setCell _ _).drew=W1 at G4 G5 HA3 ⊢;have S1:=zid (S.out W1 HA3.out);clear S;obtain ⟨x0,x1,x2,x3,x4,x5,x6,x7,x8,x9,x10,x11,x12,x13,x14⟩:=zaa G5.out;obtain ⟨y0,y1,y2,y3,y4,y5,y6,y7,y8,y9,y10,y11,y12,y13,y14⟩:=zaa G4.out
 rcases D with ⟨rfl,rfl⟩ | ⟨rfl,d1,rfl⟩ | ⟨rfl,d1,d2,rfl⟩ | ⟨rfl,d1,d2,d3,rfl⟩ | ⟨rfl,d1,d2,d3,d4⟩
 all_goals
  go_wp2_with fail
  refine S1.out.mono ?_;rintro e w2 ⟨rfl,b2⟩;have HA4:=zid (HA3.out.trans (b2.mono HA3.out.size));obtain ⟨u0,u1,u2,u3,u4,u5,u6,u7,u8,u9,u10,u11,u12,u13,u14⟩:=zaa ((b2.block w.heap.size (Array.getElem?_eq_some_iff.1 G5.out).1).trans G5.out);clear b2
  go_wp2_with ((with_reducible refine (C.out _ _ _).mono ?_);rintro e w' ⟨rfl,rfl⟩)
  go_ret;exact ⟨rfl,HA4.out⟩
end Wr
section
open Go.RowKit
theorem zeN:∀(k i n:Nat),n<128^(i+1)->(Vp.putF k n).length<=i+1:=by
 intro k
 induction k with
 | zero=>intro i n _;simp [Vp.putF]
 | succ k ih=>
  intro i n h;rw [Vp.putF]
  by_cases hn:n<128
  · rw [if_pos hn];simp
  · rw [if_neg hn]
    cases i with
    | zero=>simp at h;omega
    | succ i=>
     have:=ih i (n/128) (by rw [Nat.pow_succ] at h;omega)
     simpa using this
theorem zau.same {l:List UInt8} {i n:Nat} {b:UInt8} (h:zau l i n) (h9:i<9) (hb:l[i]?=some b) (h128:b.toNat<128):
 (Vp.put (n+b.toNat*128^i)=l.take (i+1))↔ ¬(b.toNat=0/\0<i):=by
 constructor
 · rintro he ⟨h0,hi⟩
   obtain ⟨j,rfl⟩:∃j,i=j+1:=⟨i-1,by omega⟩
   have hlen:=congrArg List.length he;have hlt:=(List.getElem?_eq_some_iff.1 hb).1;rw [List.length_take,h0] at hlen;have:=zeN 9 j n h.1
   have e:n+0*128^(j+1)=n:=by omega
   rw [e] at hlen;unfold Vp.put at hlen;omega
 · intro h0
   exact Vp.put_take (h.done h9 hb h128 h0)
theorem zfh (s:ByteArray) (i:Int) (w:World) (h:i<0\/(s.size:Int)<=i):
 Calls Try.prog 50 #[.string s,.int .i64 i] w fun e w'=>e= .returned (.tuple #[.int .i64 0,.int .i64 0,.bool false])/\w=w':=by
 by_cases h0:i<0
 · go_enter Try.func50,Try.ntmps50
   go_wp2
   go_ret3;exact ⟨rfl,rfl⟩
 · have h1:(s.size:Int)<=i:=by omega
   clear h
   go_enter Try.func50,Try.ntmps50
   go_wp2
   go_ret3;exact ⟨rfl,rfl⟩
theorem zfi {n p x:Nat} (hn:n<p) (hp:p<=72057594037927936) (_hx:x<256):wrap64 ((n:Int)+wrap64 ((x:Int)%128*(p:Int)))=((n+x%128*p:Nat):Int):=by
 have h2:x%128*p<=127*p:=Nat.mul_le_mul_right _ (by omega)
 have e:(x:Int)%128*(p:Int)=((x%128*p:Nat):Int):=by simp
 rw [e];generalize x%128*p=y at*;rw [IntWalk.wrap64_in (y:Int) ⟨by omega,by omega⟩,IntWalk.wrap64_in _ ⟨by omega,by omega⟩];omega
theorem mul_128 {i p:Nat} (h8:i<8) (hp:128^i=p):wrap64 ((p:Int)*128)=((128^(i+1):Nat):Int):=by
 have h1:128^i<=128^7:=Nat.pow_le_pow_right (by omega) (by omega)
 have h2:p<=562949953421312:=by rw [<-hp];exact h1
 rw [IntWalk.wrap64_in _ ⟨by omega,by omega⟩,Nat.pow_succ,hp];omega
theorem zc9 {w w':World} (h:Below w.drew.heap.size w.drew w'):Below w.heap.size w w':=⟨h.os,h.tape,h.output,h.size,h.block⟩
theorem putI_nat (n:Nat):putI (n:Int)=Vp.put n:=by
 unfold putI;rw [if_neg (by omega)];simp
theorem rput_nat (n:Nat) (w:World) (h:n<=9223372036854775807):
 Calls Try.prog 33 #[.int .i64 n] w fun e w'=>e= .returned (.string ⟨(Vp.put n).toArray⟩)/\Below w.heap.size w w':=by
 rw [<-putI_nat];exact zcR n w (by omega) (by omega)
theorem slice_at (s:ByteArray) (k i:Nat) (h:k+i<s.size):∀w:World,(Instr.slice 9 (.string s) (some (.int .i64 (k:Int))) (some (.int .i64 ((k:Int)+(i:Int)+1))) none).run Try.prog w= .ok (.string (s.extract k (k+i+1))) w:=by
 intro w;have:=run_slice_string (P:=Try.prog) w 9 s .i64 .i64 (k:Int) ((k:Int)+(i:Int)+1) Try.underlying9 (by omega) (by omega) (by omega);rw [this]
 congr 3
theorem rread_in (s:ByteArray) (k:Nat) (w:World) (hs:s.size<=9223372036854775807) (h:k<s.size):
 Calls Try.prog 50 #[.string s,.int .i64 k] w fun e w'=>e= .returned (zcm (s.data.toList.drop k) k)/\Below w.heap.size w w':=by
 have hL:(s.data.toList.drop k).length=s.size-k:=by rw [List.length_drop];rfl
 have HL:=zid hL;clear hL
 have hd1:decide (s.size<=k)=false:=by simpa using h
 have hd2:decide ((k:Int)<0)=false:=by simp
 have hd3:decide ((s.size:Int)<=(k:Int))=false:=by simp;omega
 go_enter Try.func50,Try.ntmps50
 go_wp2
 go_loopw [7,8,9] (fun a u b wr=>∃i n:Nat,i<=9/\i<=s.size-k/\a= .int .i64 n/\(i<9->u= .int .i64 ((128^i:Nat):Int))/\b= .int .i64 i/\zau (s.data.toList.drop k) i n/\wr=w) (fun _ _ b _=>9-(intOf b).toNat)
 case atStart=>exact ⟨0,0,by omega,by omega,rfl,fun _=>rfl,rfl,zau.start _,rfl⟩
 case round=>
  obtain ⟨i,n,hi9,hil,rfl,hu,rfl,hr,rfl⟩:=hrel
  by_cases hlt:i<s.size-k
  · by_cases h9:i<9
    · obtain rfl:=hu h9
      clear hu
      have hki:k+i<s.size:=by omega
      have hb:(s.data.toList.drop k)[i]?=some s[k+i]:=by
       rw [List.getElem?_drop,Array.getElem?_toList,Array.getElem?_eq_getElem (by exact hki)]
       rfl
      have HB:=zid hb
      have h256:((s[k+i].toNat:Nat):Int)<256:=by have:=s[k+i].toNat_lt;omega
      have hp1:(128^i:Nat)<=128^8:=Nat.pow_le_pow_right (by omega) (by omega);have hn1:=hr.1;obtain ⟨p,hp⟩:∃p,128^i=p:=⟨_,rfl⟩;rw [hp] at hp1 hn1;have hp2:p<=72057594037927936:=hp1;clear hp1;have HP:=zid hp;rw [hp];clear hp hb;have hnum:=zfi hn1 hp2 s[k+i].toNat_lt;obtain ⟨N,hN⟩:∃N:Nat,N=n+s[k+i].toNat%128*p:=⟨_,rfl⟩;rw [<-hN] at hnum;have HN:=zid hN
      have hNb:N<=9223372036854775807:=by
       have:s[k+i].toNat%128*p<=127*p:=Nat.mul_le_mul_right _ (by omega);omega
      clear hN;have HX:=zid hnum;clear hnum
      by_cases hlo:s[k+i].toNat<128
      · have hlo':((s[k+i].toNat:Nat):Int)<128:=by omega
        go_wp2_with fail
        rw [HX.out];have hsl:=slice_at s k i hki;have hw1:IntKind.i64.wrap ((k:Int)+(i:Int))=(k:Int)+(i:Int):=IntWalk.i64_in _ ⟨by omega,by omega⟩;have hw2:IntKind.i64.wrap ((k:Int)+(i:Int)+1)=(k:Int)+(i:Int)+1:=IntWalk.i64_in _ ⟨by omega,by omega⟩
        have hb1:(k:Int)<=(k:Int)+(i:Int)+1:=by omega
        have hb2:(k:Int)+(i:Int)+1<=(s.size:Int):=by omega
        have hb3:0<=(k:Int)+(i:Int)+1:=by omega
        go_cut [54] (fun v w2=>∃c:Bool,v= .bool c/\(c=false↔Vp.put N=(s.data.toList.drop k).take (i+1))/\Below wr.heap.size wr w2)
        case first=>
         go_region_with (go_at_call 33;refine (rput_nat _ _ hNb).mono ?_;rintro e w' ⟨rfl,hb⟩)
         go_wp2_with fail;go_meet
         case rel=>
          refine ⟨_,rfl,?_,zc9 hb⟩;rw [Lib.toList_data,Lib.extract_data,show k+i+1-k=i+1 from by omega]
          simp
        case rest=>
         obtain ⟨c,rfl,hc,hb⟩:=hcut
         have hN:N=n+s[k+i].toNat*p:=by rw [HN.out,Nat.mod_eq_of_lt hlo]
         have hsame:=(hr.same h9 HB.out hlo);rw [HP.out, <-hN] at hsame;have hdone:=hr.done h9 HB.out hlo;rw [HP.out, <-hN] at hdone;clear hN
         cases c with
         | false=>
          have HV:=zid (zaU k (hdone (hsame.1 (hc.1 rfl))));clear hsame hdone hc;go_wp2_with fail;go_ret3;refine ⟨?_,hb⟩;rw [HV.out];refine congrArg Ending.returned ?_;show Value.tuple #[.int .i64 (N:Int),.int .i64 ((k:Int)+(i:Int)+1),.bool true]=_;rw [show (k:Int)+(i:Int)+1=(k:Int)+((i+1:Nat):Int) from by omega]
         | true=>
          have hz:s[k+i].toNat=0/\0<i:=by
           rcases Classical.em (s[k+i].toNat=0/\0<i) with h | h
           · exact h
           · have:=hc.2 (hsame.2 h)
             cases this
          have HV:=zid (zay k (hr.zero h9 HB.out hz.1 hz.2));clear hsame hdone hc hz;go_wp2_with fail;go_ret3;refine ⟨?_,hb⟩;rw [HV.out]
          rfl
      · have hlo':128<=((s[k+i].toNat:Nat):Int):=by omega
        have hstep:=hr.step h9 HB.out (by omega)
        have e:=HN.out;rw [<-HP.out] at e;rw [<-e] at hstep;clear e;have HT:=zid hstep;clear hstep
        by_cases h8:i<8
        · go_wp2_with fail
          rw [HX.out]
          go_roundw
          case rel=>exact ⟨i+1,N,by omega,by omega,rfl,fun _=>congrArg (Value.int .i64) (mul_128 h8 HP.out),by go_num,HT.out,by trivial⟩
          case measure=>simp [intOf];omega
        · go_wp2_with fail
          rw [HX.out]
          go_roundw
          case rel=>exact ⟨i+1,N,by omega,by omega,rfl,fun h=>absurd h (by omega),by go_num,HT.out,by trivial⟩
          case measure=>simp [intOf];omega
    · clear hu
      go_wp2_with fail
      go_ret3;exact ⟨by rw [zay k (hr.stop (.inl (by omega)))];rfl,Below.refl _ _⟩
  · clear hu
    by_cases h9:i<9
    all_goals
     go_wp2_with fail
     go_ret3;exact ⟨by rw [zay k (hr.stop (.inr (by rw [HL.out];omega)))];rfl,Below.refl _ _⟩
theorem zdl (s:ByteArray) (i:Int) (w:World) (hs:s.size<=9223372036854775807):
 Calls Try.prog 50 #[.string s,.int .i64 i] w fun e w'=>e= .returned (rdAt s i)/\Below w.heap.size w w':=by
 by_cases h:i<0\/(s.size:Int)<=i
 · rw [zei h]
   exact (zfh s i w h).mono fun _ _ ⟨he,hw⟩=>⟨he,by rw [<-hw];exact Below.refl _ _⟩
 · obtain ⟨k,rfl⟩:∃k:Nat,i=(k:Int):=⟨i.toNat,by omega⟩
   have e:rdAt s (k:Int)=zcm (s.data.toList.drop k) k:=by unfold rdAt;rw [if_neg (by omega)];simp
   rw [e];exact rread_in s k w hs (by omega)
theorem rof_any (s:ByteArray) (w:World) (hs:s.size<=maxLen):
 Calls Try.prog 34 #[.string s] w fun e w'=>e= .returned (.int .u32 (Cp.sum 0 s.data.toList:Nat))/\w=w':=by
 have C:=zid fun W:World=>ron_any 0 s W (by omega) hs;generalize Cp.sum 0 s.data.toList=X at C ⊢
 go_enter Try.func34,Try.ntmps34
 go_wp2_with fail;refine (C.out _).mono ?_;rintro e w' ⟨rfl,rfl⟩;go_wp2_with fail;go_ret;exact ⟨rfl,rfl⟩
theorem zbB (s:ByteArray) (w:World) (h:Fr.May s.size):
 Calls Try.prog 16 #[.string s] w fun e w'=>e= .returned (.tuple #[.string ⟨(Fr.fr s.data.toList).toArray⟩,.int .i64 0])/\Below w.heap.size w w':=by
 have hb:(s.size:Int)<=65536:=by have:=h.2;omega
 have hb1:1<=(s.size:Int):=by have:=h.1;omega
 have D:=zid fun W:World=>zcR (s.size:Int) W (by omega) (by omega)
 have e0:putI (s.size:Int)=Vp.put s.data.toList.length:=by rw [show s.data.toList.length=s.size from by simp];unfold putI;rw [if_neg (by omega)];simp
 rw [e0] at D;have hpl:=Vp.put_len_le s.data.toList.length;have E:=zid fun W:World=>rof_any (⟨(Vp.put s.data.toList.length).toArray⟩++s) W (by rw [ByteArray.size_append,zai];unfold maxLen;omega)
 have e1:(⟨(Vp.put s.data.toList.length).toArray⟩++s:ByteArray).data.toList=Vp.put s.data.toList.length++s.data.toList:=by simp
 rw [e1] at E;have F:=zid fun W:World=>zdm (Cp.sum 0 (Vp.put s.data.toList.length++s.data.toList)) W (Cp.sum_lt _ _);rw [zbo] at F;unfold Fr.fr;rw [<-zdD];obtain ⟨P,hP⟩:∃P,Vp.put s.data.toList.length=P:=⟨_,rfl⟩;rw [hP] at D E F hpl ⊢;clear hP e0 e1 h;obtain ⟨X,hX⟩:∃X,Cp.sum 0 (P++s.data.toList)=X:=⟨_,rfl⟩;rw [hX] at E F ⊢;clear hX
 have hfl:(Fr.four X).length<=4:=by rw [Fr.four_len];exact Nat.le_refl _
 generalize Fr.four X=f at F hfl ⊢
 go_enter Try.func16,Try.ntmps16
 go_wp2_with fail;refine (D.out _).mono ?_;rintro e w1 ⟨rfl,b1⟩;go_wp2_with fail;refine (E.out _).mono ?_;rintro e w2 ⟨rfl,rfl⟩;go_wp2_with fail;refine (F.out _).mono ?_;rintro e w3 ⟨rfl,b3⟩;go_wp2_with fail;go_ret2;exact ⟨rfl,zaM b1 b3⟩
theorem zfE (l:List UInt8) (i:Nat) (h:i<l.length):Fr.highB (l.take (i+1))=(Fr.highB (l.take i)&&decide (128<=l[i].toNat)):=by
 rw [List.take_succ_eq_append_getElem h];unfold Fr.highB;rw [List.all_append]
 simp
theorem cut_low (l:List UInt8) (i:Nat) (h:i<l.length) (hb:l[i].toNat<128):Fr.cutB l=false:=by
 unfold Fr.cutB;rw [Bool.and_eq_false_iff]
 right
 rw [List.all_eq_false];exact ⟨l[i],List.getElem_mem _,by simpa using hb⟩
theorem cut_high (l:List UInt8) (h:Fr.highB l=true):Fr.cutB l=decide (l.length<=8):=by
 unfold Fr.cutB;unfold Fr.highB at h;rw [h,Bool.and_true]
theorem drop_get (s:ByteArray) (k i q:Nat) (hq:k+i=q) (h:q<s.size):((s.data.toList.drop k)[i]'(by rw [List.length_drop];show i<s.size-k;omega))=s[q]:=by
 subst hq;rw [List.getElem_drop];rfl
theorem zfm (s:ByteArray) (k:Nat) (w:World) (hs:s.size<=maxLen) (hk:k<=s.size):
 Calls Try.prog 49 #[.string s,.int .i64 k] w fun e w'=>e= .returned (.bool (Fr.cutB (s.data.toList.drop k)))/\w=w':=by
 unfold maxLen at hs
 have hL:(s.data.toList.drop k).length=s.size-k:=by rw [List.length_drop];rfl
 have HL:=zid hL;clear hL
 go_enter Try.func49,Try.ntmps49
 go_wp2_with fail
 go_loop [5] (fun x=>∃i:Nat,k+i<=s.size/\x= .int .i64 ((k+i:Nat):Int)/\Fr.highB ((s.data.toList.drop k).take i)=true) (fun x=>s.size-(intOf x).toNat)
 case atStart=>exact ⟨0,hk,rfl,rfl⟩
 case round=>
  obtain ⟨i,hi,rfl,hr⟩:=hrel;have HR:=zid hr;clear hr;obtain ⟨q,hq⟩:∃q,k+i=q:=⟨_,rfl⟩;have HQ:=zid hq;rw [hq] at hi ⊢
  by_cases hlt:q<s.size
  · have hg:=drop_get s k i q hq hlt
    have hsn:=zfE (s.data.toList.drop k) i (by rw [HL.out];omega)
    have hlo:=cut_low (s.data.toList.drop k) i (by rw [HL.out];omega);rw [hg] at hsn hlo;have HN:=zid hsn;clear hsn hg hq
    by_cases hb:s[q].toNat<128
    · have HZ:=zid (hlo hb)
      have hb':((s[q].toNat:Nat):Int)<128:=by omega
      clear hlo;go_wp2_with fail;go_ret;exact ⟨by rw [HZ.out];rfl,rfl⟩
    · have hb':128<=((s[q].toNat:Nat):Int):=by omega
      have HZ:=zid (show 128<=s[q].toNat by omega)
      clear hb hlo;go_wp2_with fail
      go_round
      case rel=>exact ⟨i+1,by have:=HQ.out;omega,by have:=HQ.out;rw [<-this];go_num,by rw [HN.out,HR.out];simpa using HZ.out⟩
      case measure=>simp [intOf];omega
  · have HZ:=zid (cut_high (s.data.toList.drop k) (by have:=HR.out;rwa [List.take_of_length_le (by rw [HL.out];omega)] at this))
    clear hq
    go_wp2_with fail;go_ret;refine ⟨?_,rfl⟩;rw [HZ.out,HL.out];refine congrArg (fun b=>Ending.returned (.bool b)) ?_;show decide (_:Prop)=_;rw [decide_eq_decide];omega
theorem zeM (s:ByteArray) (i:Int) (w:World) (h:i<0\/(s.size:Int)<=i):
 Calls Try.prog 26 #[.string s,.int .i64 i] w fun e w'=>e= .returned (.tuple #[.string ⟨#[]⟩,.int .i64 0,.int .i64 2])/\w=w':=by
 by_cases h0:i<0
 · clear h
   go_enter Try.func26,Try.ntmps26
   go_wp2_with fail;go_ret3;exact ⟨rfl,rfl⟩
 · have h1:(s.size:Int)<=i:=by omega
   clear h
   go_enter Try.func26,Try.ntmps26
   go_wp2_with fail;go_ret3;exact ⟨rfl,rfl⟩
theorem zfw {r:Rp.Rec} (h:Rp.fault r=6):okB r=false:=zek (by omega)
theorem okB_five {r:Rp.Rec} (h:Rp.fault r=5):okB r=false:=zek (by omega)
theorem zeL (r:Rp.Rec) (w:World) (hd:r.d.size<=9223372036854775807):
 Calls Try.prog 31 #[zbc r] w fun e w'=>e= .returned (.bool (okB r))/\Below w.heap.size w w':=by
 have C1:=zid fun W:World=>zch r.a W;have C2:=zid fun W:World=>zch r.t W;have F1:=zid (@Rp.fault_a r);have F2:=zid (@Rp.fault_t r);have F3:=zid (@Rp.fault_d r);have F4:=zid (@Rp.fault_ok r);unfold zbc
 rcases h1:Rp.inB r.a with _ | _
 · rw [h1] at C1
   rw [zfw (F1.out h1)]
   clear h1
   go_enter Try.func31,Try.ntmps31
   go_wp2_with fail;refine (C1.out _).mono ?_;rintro e w' ⟨rfl,rfl⟩;go_wp2_with fail;go_ret;exact ⟨rfl,(Below.refl _ _).alloc (Nat.le_refl _) _⟩
 have H1:=zid h1;rw [h1] at C1;clear h1
 rcases h2:Rp.inB r.t with _ | _
 · rw [h2] at C2
   rw [zfw (F2.out h2)]
   clear h2
   go_enter Try.func31,Try.ntmps31
   go_wp2_with fail;refine (C1.out _).mono ?_;rintro e w' ⟨rfl,rfl⟩;go_wp2_with fail;refine (C2.out _).mono ?_;rintro e w' ⟨rfl,rfl⟩;go_wp2_with fail;go_ret;exact ⟨rfl,(Below.refl _ _).alloc (Nat.le_refl _) _⟩
 have H2:=zid h2;rw [h2] at C2;clear h2
 by_cases h3:(r.d.size:Int)<=64
 · rw [zdV (F4.out H1.out H2.out (by omega))]
   go_enter Try.func31,Try.ntmps31
   go_wp2_with fail;refine (C1.out _).mono ?_;rintro e w' ⟨rfl,rfl⟩;go_wp2_with fail;refine (C2.out _).mono ?_;rintro e w' ⟨rfl,rfl⟩;go_wp2_with fail;go_ret;exact ⟨rfl,(Below.refl _ _).alloc (Nat.le_refl _) _⟩
 · rw [okB_five (F3.out H1.out H2.out (by omega))]
   have h4:decide ((r.d.size:Int)<=64)=false:=by simp;omega
   clear h3
   go_enter Try.func31,Try.ntmps31
   go_wp2_with fail;refine (C1.out _).mono ?_;rintro e w' ⟨rfl,rfl⟩;go_wp2_with fail;refine (C2.out _).mono ?_;rintro e w' ⟨rfl,rfl⟩;go_wp2_with fail;go_ret;exact ⟨rfl,(Below.refl _ _).alloc (Nat.le_refl _) _⟩
end
end Go.Proofs.Ytmkdcpjlhphhiaa

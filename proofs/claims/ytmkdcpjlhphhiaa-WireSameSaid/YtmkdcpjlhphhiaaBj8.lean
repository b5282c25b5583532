/-
  Parts of what the laws of this seat stand on:WirRref4,FrameRnext.
-/
import Derived.Test.YtmkdcpjlhphhiaaBj1
import Derived.Test.YtmkdcpjlhphhiaaBj7
set_option maxRecDepth 100000
set_option maxHeartbeats 6400000
namespace Go.Proofs.Ytmkdcpjlhphhiaa
namespace Wr
open Go.RowKit Qm Wq Mfs
theorem zc2 (w:World) (A B:Obj):((w.alloc A).alloc B).heap[w.heap.size]?=(w.alloc A).heap[w.heap.size]?:=Below.heap_alloc (w.alloc A) B w.heap.size (by simp)
theorem zar {P:Program} {id:Nat} {ops:Array Oper} {Q:Exit->Act->World->Prop} {a:Act} {w:World} (hm:P.follows .mixedOrders=true) (S:World->Prop) (k:Nat) (hk:ops.size=k) (L:Array Bool) (hL:Array.replicate k false=L)
 (h:wpAnyH P .any ops Q S k L a w.drew):(Code.region id ops true).wp P Q a w:=
 wp_region_held (S:=S) hm (by rw [hk,hL];exact h)
def zbe (b:Nat) (cs:Array Value) (w W:World):Prop:=W.heap[b]?=some (.cells cs 25 (0,0))/\Below w.heap.size w W
theorem zbe.keep {b:Nat} {cs:Array Value} {w W W':World} (h:zbe b cs w W) (k:Below W.heap.size W W'):zbe b cs w W':=
 ⟨(k.block b (Array.getElem?_eq_some_iff.1 h.1).1).trans h.1,h.2.trans (k.mono h.2.size)⟩
theorem zeR {w w1 w2:World} {a g b o:Nat} {x y z u v:Value} {cs:Array Value} (h:w1.cell? ⟨a,14,none⟩=some x/\w1.cell? ⟨a,6,none⟩=some y/\w1.cell? ⟨g,o,none⟩=some z/\w1.cell? ⟨g,o+1,none⟩=some u/\w1.cell? ⟨g,o+2,none⟩=some v/\zbe b cs w w1) (k:Below w1.heap.size w1 w2):
 w2.cell? ⟨a,14,none⟩=some x/\w2.cell? ⟨a,6,none⟩=some y/\w2.cell? ⟨g,o,none⟩=some z/\w2.cell? ⟨g,o+1,none⟩=some u/\w2.cell? ⟨g,o+2,none⟩=some v/\zbe b cs w w2:=
 ⟨(k.cell (p:=⟨a,14,none⟩) (block_lt_of_cell h.1)).trans h.1,(k.cell (p:=⟨a,6,none⟩) (block_lt_of_cell h.2.1)).trans h.2.1,(k.cell (p:=⟨g,o,none⟩) (block_lt_of_cell h.2.2.1)).trans h.2.2.1,(k.cell (p:=⟨g,o+1,none⟩) (block_lt_of_cell h.2.2.2.1)).trans h.2.2.2.1,(k.cell (p:=⟨g,o+2,none⟩) (block_lt_of_cell h.2.2.2.2.1)).trans h.2.2.2.2.1,h.2.2.2.2.2.keep k⟩
theorem zcQ (va:Option Addr) (vn vc:Nat) (m:Ms) (b:Bool) (w:World) (hv:zae w (.slice va vn vc) m.l) (hh:Head m) (hk:m.k=2) (hb:b=true↔Tail m):
 Calls Try.prog 14 #[zag (.slice va vn vc) m] w fun e w'=>e= .returned (.bool b)/\Below w.heap.size w w':=by
 obtain ⟨h1,h2,h3,h4,h5,h6,h7,h8⟩:=zbu hh;obtain ⟨c,hc,D⟩:=zdT m b hk hb;have C:=zid fun (n hi:Int) (W:World)=>zaP n hi W;have S:=zid fun (W:World) (hW:Below w.heap.size w W)=>zaL va vn vc va vn vc (bat m) m c W (zab hv hW) (zab hv hW) hc;have HV:=zid fun (W:World) (hW:Below w.heap.size w W)=>zab hv hW;have ha0:=hh.a0;have ha1:=hh.a1;obtain ⟨hvl,hvm⟩:=za0 hv;have HOK:=zid (show ∀r∈m.l,RecOk r from by obtain ⟨_,_,_,_,h,_⟩:=hv;exact h);have HVL:=zid hvl;clear hb hc hv hh hvl;obtain ⟨k,f,t,i,p,q,a,wd,h,wt,x,z,s,d,l⟩:=m;unfold zag bat at*;dsimp only at*;subst hk;have HA:=zid ((Below.refl w.heap.size w).alloc (Nat.le_refl _) (.cells #[.int .i64 2,.int .i64 f,.int .i64 t,.int .i64 i,.int .i64 p,.int .i64 q,.int .i64 a,.int .i64 wd,.int .i64 h,.int .i64 wt,.int .i64 x,.int .i64 z,.int .u32 s,.string d,.slice va vn vc] 25));have G1:=zid (zav w #[.int .i64 2,.int .i64 f,.int .i64 t,.int .i64 i,.int .i64 p,.int .i64 q,.int .i64 a,.int .i64 wd,.int .i64 h,.int .i64 wt,.int .i64 x,.int .i64 z,.int .u32 s,.string d,.slice va vn vc]);obtain ⟨x0,x1,x2,x3,x4,x5,x6,x7,x8,x9,x10,x11,x12,x13,x14⟩:=zaa G1.out
 go_enter Try.func14,Try.ntmps14
 go_wp2_with ((with_reducible refine (C.out _ _ _).mono ?_);rintro e w' ⟨rfl,rfl⟩)
 have G2:=zid (zav (w.alloc (.cells #[.int .i64 2,.int .i64 f,.int .i64 t,.int .i64 i,.int .i64 p,.int .i64 q,.int .i64 a,.int .i64 wd,.int .i64 h,.int .i64 wt,.int .i64 x,.int .i64 z,.int .u32 s,.string d,.slice va vn vc] 25)) #[.int .i64 2,.int .i64 f,.int .i64 t,.int .i64 i,.int .i64 p,.int .i64 q,.int .i64 a,.int .i64 0,.int .i64 0,.int .i64 0,.int .i64 0,.int .i64 0,.int .u32 0,.string ⟨#[]⟩,.slice none 0 0]);have G3:=zid ((Below.heap_alloc (w.alloc (.cells #[.int .i64 2,.int .i64 f,.int .i64 t,.int .i64 i,.int .i64 p,.int .i64 q,.int .i64 a,.int .i64 wd,.int .i64 h,.int .i64 wt,.int .i64 x,.int .i64 z,.int .u32 s,.string d,.slice va vn vc] 25)) (.cells #[.int .i64 2,.int .i64 f,.int .i64 t,.int .i64 i,.int .i64 p,.int .i64 q,.int .i64 a,.int .i64 0,.int .i64 0,.int .i64 0,.int .i64 0,.int .i64 0,.int .u32 0,.string ⟨#[]⟩,.slice none 0 0] 25) w.heap.size (by simp)).trans G1.out);have HA2:=zid (HA.out.alloc HA.out.size (.cells #[.int .i64 2,.int .i64 f,.int .i64 t,.int .i64 i,.int .i64 p,.int .i64 q,.int .i64 a,.int .i64 0,.int .i64 0,.int .i64 0,.int .i64 0,.int .i64 0,.int .u32 0,.string ⟨#[]⟩,.slice none 0 0] 25));rw [show (w.alloc (.cells #[.int .i64 2,.int .i64 f,.int .i64 t,.int .i64 i,.int .i64 p,.int .i64 q,.int .i64 a,.int .i64 wd,.int .i64 h,.int .i64 wt,.int .i64 x,.int .i64 z,.int .u32 s,.string d,.slice va vn vc] 25)).heap.size=w.heap.size+1 by simp] at G2;clear G1 HA x0 x1 x2 x3 x4 x5 x6 x7 x8 x9 x10 x11 x12 x13 x14;generalize (w.alloc _).alloc _=W0 at G2 G3 HA2 ⊢;obtain ⟨x0,x1,x2,x3,x4,x5,x6,x7,x8,x9,x10,x11,x12,x13,x14⟩:=zaa G3.out;obtain ⟨y0,y1,y2,y3,y4,y5,y6,y7,y8,y9,y10,y11,y12,y13,y14⟩:=zaa G2.out;have z8:=zac G2.out 8;have z14:=zac G2.out 14
 go_region_held3 (fun W=>W.cell? ⟨w.heap.size,8,none⟩=some (.int .i64 h)/\W.cell? ⟨w.heap.size,14,none⟩=some (.slice va vn vc)) (go_keep) (fail)
 rename_i hh;clear hh x0 x1 x2 x3 x4 x5 x6 x7 x8 x9 x10 x11 x12 x13 x14 y0 y1 y2 y3 y4 y5 y6 y7 y8 y9 y10 y11 y12 y13 y14 z8 z14
 have G4:=zid (show ((W0.setCell ⟨w.heap.size+1,8,none⟩ (.int .i64 h)).setCell ⟨w.heap.size+1,14,none⟩ (.slice va vn vc)).drew.heap[w.heap.size+1]?=some (.cells #[.int .i64 2,.int .i64 f,.int .i64 t,.int .i64 i,.int .i64 p,.int .i64 q,.int .i64 a,.int .i64 0,.int .i64 h,.int .i64 0,.int .i64 0,.int .i64 0,.int .u32 0,.string ⟨#[]⟩,.slice va vn vc] 25 (0,0)) from
  heap_setCell_same _ _ 14 _ _ _ (heap_setCell_same W0 _ 8 _ _ _ G2.out))
 have G5:=zid (show ((W0.setCell ⟨w.heap.size+1,8,none⟩ (.int .i64 h)).setCell ⟨w.heap.size+1,14,none⟩ (.slice va vn vc)).drew.heap[w.heap.size]?=some (.cells #[.int .i64 2,.int .i64 f,.int .i64 t,.int .i64 i,.int .i64 p,.int .i64 q,.int .i64 a,.int .i64 wd,.int .i64 h,.int .i64 wt,.int .i64 x,.int .i64 z,.int .u32 s,.string d,.slice va vn vc] 25 (0,0)) from
  (zaz _ _ _ _ _ (by omega)).trans ((zaz W0 _ _ _ _ (by omega)).trans G3.out))
 have HA3:=zid (((HA2.out.setCell (p:=⟨w.heap.size+1,8,none⟩) (by simp) (.int .i64 h)).setCell (p:=⟨w.heap.size+1,14,none⟩) (by simp) (.slice va vn vc)).drew);clear G2 G3 HA2;generalize ((W0.setCell _ _).setCell _ _).drew=W1 at G4 G5 HA3 ⊢;have S1:=zid (S.out W1 HA3.out);clear S;obtain ⟨x0,x1,x2,x3,x4,x5,x6,x7,x8,x9,x10,x11,x12,x13,x14⟩:=zaa G5.out;obtain ⟨y0,y1,y2,y3,y4,y5,y6,y7,y8,y9,y10,y11,y12,y13,y14⟩:=zaa G4.out
 rcases D with ⟨rfl,rfl⟩ | ⟨rfl,d1,rfl⟩ | ⟨rfl,d1,d2,rfl⟩ | ⟨rfl,d1,d2,d3⟩
 iterate 2
  · go_wp2_with fail
    refine S1.out.mono ?_
    rintro e w2 ⟨rfl,b2⟩;have HA4:=zid (HA3.out.trans (b2.mono HA3.out.size));obtain ⟨u0,u1,u2,u3,u4,u5,u6,u7,u8,u9,u10,u11,u12,u13,u14⟩:=zaa ((b2.block w.heap.size (Array.getElem?_eq_some_iff.1 G5.out).1).trans G5.out);clear b2
    go_wp2_with ((with_reducible refine (C.out _ _ _).mono ?_);rintro e w' ⟨rfl,rfl⟩)
    go_ret;exact ⟨rfl,HA4.out⟩
 · have d3:(64:Int)<(vn:Int):=by rw [HVL.out];omega
   clear d2
   go_wp2_with fail;refine S1.out.mono ?_;rintro e w2 ⟨rfl,b2⟩;have HA4:=zid (HA3.out.trans (b2.mono HA3.out.size));obtain ⟨u0,u1,u2,u3,u4,u5,u6,u7,u8,u9,u10,u11,u12,u13,u14⟩:=zaa ((b2.block w.heap.size (Array.getElem?_eq_some_iff.1 G5.out).1).trans G5.out);clear b2
   go_wp2_with ((with_reducible refine (C.out _ _ _).mono ?_);rintro e w' ⟨rfl,rfl⟩)
   go_ret;exact ⟨rfl,HA4.out⟩
 have d4:decide ((64:Int)<(vn:Int))=false:=by rw [HVL.out];simp;omega
 have hv64:vn<=64:=by rw [HVL.out];exact d2
 have HN:=zid (show ¬zd3 a l l.length->b=false from fun h=>by rw [<-Bool.not_eq_true,d3];exact h);have HY:=zid d3.2;clear d2 d3;go_wp2_with fail;refine S1.out.mono ?_;rintro e w2 ⟨rfl,b2⟩;have HA4:=zid (HA3.out.trans (b2.mono HA3.out.size));have G6:=zid ((b2.block w.heap.size (Array.getElem?_eq_some_iff.1 G5.out).1).trans G5.out);obtain ⟨u0,u1,u2,u3,u4,u5,u6,u7,u8,u9,u10,u11,u12,u13,u14⟩:=zaa G6.out;clear b2 x0 x1 x2 x3 x4 x5 x6 x7 x8 x9 x10 x11 x12 x13 x14 y0 y1 y2 y3 y4 y5 y6 y7 y8 y9 y10 y11 y12 y13 y14 G4 G5 HA3 S1
 go_wp2_with ((with_reducible refine (C.out _ _ _).mono ?_);rintro e w' ⟨rfl,rfl⟩)
 clear u0 u1 u2 u3 u4 u5 u6 u7 u8 u9 u10 u11 u12 u13 u14 d1 d4 h1 h2 h3 h4 h5 h6 h7 h8
 go_loopw [4] (fun j wr=>∃k:Nat,k<=vn/\j= .int .i64 k/\zd3 a l k/\zbe w.heap.size #[.int .i64 2,.int .i64 f,.int .i64 t,.int .i64 i,.int .i64 p,.int .i64 q,.int .i64 a,.int .i64 wd,.int .i64 h,.int .i64 wt,.int .i64 x,.int .i64 z,.int .u32 s,.string d,.slice va vn vc] w wr) (fun j _=>vn-(intOf j).toNat)
 case atStart=>exact ⟨0,Nat.zero_le _,rfl,fun j hj=>absurd hj (Nat.not_lt_zero j),G6.out,HA4.out⟩
 case round=>
  obtain ⟨k,hk,rfl,hs,hbox⟩:=hrel;have HS:=zid hs;have HX:=zid hbox;clear hs;obtain ⟨x0,x1,x2,x3,x4,x5,x6,x7,x8,x9,x10,x11,x12,x13,x14⟩:=zaa hbox.1
  by_cases hlt:k<vn
  · have hlt':k<l.length:=by rw [<-HVL.out];exact hlt
    obtain ⟨g,off,rfl,c0,c1,c2⟩:=zbw (HV.out wr hbox.2) hlt
    have hrk:=HOK.out _ (show l.getD k Rp.zero∈l by rw [show l.getD k Rp.zero=l[k] by simp [List.getD_eq_getElem?_getD,hlt']];exact List.getElem_mem _);have hd:=hrk.d1;have r0:=hrk.a0;have r1:=hrk.a1;have HNX:=zid fun e1 e2=>HS.out.next (k:=k) e1 e2;have HBAD:=zid (show ¬(Rp.Ok (l.getD k Rp.zero)/\(l.getD k Rp.zero).a=a+k)->b=false from fun e1=>HN.out fun e2=>e1 (e2 k hlt'));have ST:wr.cell? ⟨w.heap.size,14,none⟩=some (.slice (some ⟨g,off,none⟩) vn vc)/\wr.cell? ⟨w.heap.size,6,none⟩=some (.int .i64 a)/\wr.cell? ⟨g,off+k*3,none⟩=some (.int .i64 (l.getD k Rp.zero).a)/\wr.cell? ⟨g,off+k*3+1,none⟩=some (.int .i64 (l.getD k Rp.zero).t)/\wr.cell? ⟨g,off+k*3+2,none⟩=some (.string (l.getD k Rp.zero).d)/\zbe w.heap.size #[.int .i64 2,.int .i64 f,.int .i64 t,.int .i64 i,.int .i64 p,.int .i64 q,.int .i64 a,.int .i64 wd,.int .i64 h,.int .i64 wt,.int .i64 x,.int .i64 z,.int .u32 s,.string d,.slice (some ⟨g,off,none⟩) vn vc] w wr:=⟨x14,x6,c0,c1,c2,hbox⟩;clear hrk hlt' hbox c0 c1 c2;generalize l.getD k Rp.zero=r at*;have P:=fun W:World=>zeL r W hd;have u1:IntKind.i64.wrap (a+(k:Int))=a+(k:Int):=IntWalk.i64_in _ ⟨by omega,by omega⟩
    rcases hob:okB r with _ | _
    · rw [hob] at P
      have HF:=zid (HBAD.out fun h=>by rw [zcX.2 h.1] at hob;cases hob)
      unfold zbc at P;replace P:=zid P;clear hob u1;go_wp2_with fail;clear x0 x1 x2 x3 x4 x5 x6 x7 x8 x9 x10 x11 x12 x13 x14;have h0:(fun W=>W.cell? ⟨w.heap.size,14,none⟩=some (.slice (some ⟨g,off,none⟩) vn vc)/\W.cell? ⟨w.heap.size,6,none⟩=some (.int .i64 a)/\W.cell? ⟨g,off+k*3,none⟩=some (.int .i64 r.a)/\W.cell? ⟨g,off+k*3+1,none⟩=some (.int .i64 r.t)/\W.cell? ⟨g,off+k*3+2,none⟩=some (.string r.d)/\zbe w.heap.size #[.int .i64 2,.int .i64 f,.int .i64 t,.int .i64 i,.int .i64 p,.int .i64 q,.int .i64 a,.int .i64 wd,.int .i64 h,.int .i64 wt,.int .i64 x,.int .i64 z,.int .u32 s,.string d,.slice (some ⟨g,off,none⟩) vn vc] w W) wr.drew:=zeR ST (Below.refl _ _).drew;refine zar (by kernel_rfl) (fun W=>W.cell? ⟨w.heap.size,14,none⟩=some (.slice (some ⟨g,off,none⟩) vn vc)/\W.cell? ⟨w.heap.size,6,none⟩=some (.int .i64 a)/\W.cell? ⟨g,off+k*3,none⟩=some (.int .i64 r.a)/\W.cell? ⟨g,off+k*3+1,none⟩=some (.int .i64 r.t)/\W.cell? ⟨g,off+k*3+2,none⟩=some (.string r.d)/\zbe w.heap.size #[.int .i64 2,.int .i64 f,.int .i64 t,.int .i64 i,.int .i64 p,.int .i64 q,.int .i64 a,.int .i64 wd,.int .i64 h,.int .i64 wt,.int .i64 x,.int .i64 z,.int .u32 s,.string d,.slice (some ⟨g,off,none⟩) vn vc] w W) 20 rfl #[false,false,false,false,false,false,false,false,false,false,false,false,false,false,false,false,false,false,false,false] rfl ?_;refine wpAnyH_take (i:=0) (v:= .pointer (some ⟨w.heap.size,14,none⟩)) rfl (by kernel_rfl) (by kernel_rfl) (by kernel_rfl) (fun _ _ _ h=>h) (Or.inl ⟨by kernel_rfl,fun W' hS=>?_⟩) h0 ?_
      · go_simp
      simp only [Act.put,List.setIfInBounds_toArray,List.set_cons_zero,List.set_cons_succ,List.getElem_toArray,List.getElem_cons_zero];refine wpAnyH_take (i:=1) (v:= .slice (some ⟨g,off,none⟩) vn vc) rfl (by kernel_rfl) (by kernel_rfl) (by kernel_rfl) (fun _ _ _ h=>h) (Or.inl ⟨by kernel_rfl,fun W' hS=>?_⟩) h0 ?_
      · have c:=hS.1;go_simp
      simp only [Act.put,List.setIfInBounds_toArray,List.set_cons_zero,List.set_cons_succ,List.getElem_toArray,List.getElem_cons_succ,List.getElem_cons_zero];refine wpAnyH_take (i:=2) (v:= .int .i64 k) rfl (by kernel_rfl) (by kernel_rfl) (by kernel_rfl) (fun _ _ _ h=>h) (Or.inl ⟨by kernel_rfl,fun W' hS=>?_⟩) h0 ?_
      · go_simp
      simp only [Act.put,List.setIfInBounds_toArray,List.set_cons_zero,List.set_cons_succ,List.getElem_toArray,List.getElem_cons_succ,List.getElem_cons_zero];refine wpAnyH_take (i:=3) (v:= .pointer (some ⟨g,off+k*3,none⟩)) rfl (by kernel_rfl) (by kernel_rfl) (by kernel_rfl) (fun _ _ _ h=>h) (Or.inl ⟨by kernel_rfl,fun W' hS=>?_⟩) h0 ?_
      · go_simp
      simp only [Act.put,List.setIfInBounds_toArray,List.set_cons_zero,List.set_cons_succ,List.getElem_toArray,List.getElem_cons_succ,List.getElem_cons_zero];refine wpAnyH_take (i:=4) (v:= .agg #[.int .i64 r.a,.int .i64 r.t,.string r.d]) rfl (by kernel_rfl) (by kernel_rfl) (by kernel_rfl) (fun _ _ _ h=>h) (Or.inl ⟨by kernel_rfl,fun W' hS=>?_⟩) h0 ?_
      · obtain ⟨_,_,e1,e2,e3,_⟩:=hS;go_simp
      simp only [Act.put,List.setIfInBounds_toArray,List.set_cons_zero,List.set_cons_succ,List.getElem_toArray,List.getElem_cons_succ,List.getElem_cons_zero];refine wpAnyH_ready (rs:=[5]) (by kernel_rfl) (by simp) (AllReadyH.cons rfl (fun K hK=>?_) AllReadyH.nil);replace hK:=zid hK
      go_simp
      refine (P.out _).mono ?_;rintro e w4 ⟨rfl,b4⟩;have h5:=zeR h0 b4;have HQ:=zid h5.2.2.2.2.2.2;clear b4 h0 ST;dsimp only;refine hK.out _ _ h5 (fun _=>?_);clear hK K;simp only [List.setIfInBounds_toArray,List.set_cons_zero,List.set_cons_succ];refine wpAnyH_take (i:=6) (v:= .bool true) rfl (by kernel_rfl) (by kernel_rfl) (by kernel_rfl) (fun _ _ _ h=>h) (Or.inl ⟨by kernel_rfl,fun W' hS=>?_⟩) h5 ?_
      · go_simp
      simp only [Act.put,List.setIfInBounds_toArray,List.set_cons_zero,List.set_cons_succ,List.getElem_toArray,List.getElem_cons_succ,List.getElem_cons_zero];refine wpAnyH_take (i:=7) (v:= .bool true) rfl (by kernel_rfl) (by kernel_rfl) (by kernel_rfl) (fun _ _ _ h=>h) (Or.inl ⟨by kernel_rfl,fun W' hS=>?_⟩) h5 ?_
      · go_simp
      simp only [Act.put,List.setIfInBounds_toArray,List.set_cons_zero,List.set_cons_succ,List.getElem_toArray,List.getElem_cons_succ,List.getElem_cons_zero];refine wpAnyH_take (i:=8) (v:=undef) rfl (by kernel_rfl) (by kernel_rfl) (by kernel_rfl) (fun _ _ _ h=>h) (Or.inr ⟨by kernel_rfl,rfl⟩) h5 ?_;simp only [Act.put,List.setIfInBounds_toArray,List.set_cons_zero,List.set_cons_succ,List.getElem_toArray,List.getElem_cons_succ,List.getElem_cons_zero];refine wpAnyH_take (i:=9) (v:=undef) rfl (by kernel_rfl) (by kernel_rfl) (by kernel_rfl) (fun _ _ _ h=>h) (Or.inr ⟨by kernel_rfl,rfl⟩) h5 ?_;simp only [Act.put,List.setIfInBounds_toArray,List.set_cons_zero,List.set_cons_succ,List.getElem_toArray,List.getElem_cons_succ,List.getElem_cons_zero];refine wpAnyH_take (i:=10) (v:=undef) rfl (by kernel_rfl) (by kernel_rfl) (by kernel_rfl) (fun _ _ _ h=>h) (Or.inr ⟨by kernel_rfl,rfl⟩) h5 ?_;simp only [Act.put,List.setIfInBounds_toArray,List.set_cons_zero,List.set_cons_succ,List.getElem_toArray,List.getElem_cons_succ,List.getElem_cons_zero];refine wpAnyH_take (i:=11) (v:=undef) rfl (by kernel_rfl) (by kernel_rfl) (by kernel_rfl) (fun _ _ _ h=>h) (Or.inr ⟨by kernel_rfl,rfl⟩) h5 ?_;simp only [Act.put,List.setIfInBounds_toArray,List.set_cons_zero,List.set_cons_succ,List.getElem_toArray,List.getElem_cons_succ,List.getElem_cons_zero];refine wpAnyH_take (i:=12) (v:=undef) rfl (by kernel_rfl) (by kernel_rfl) (by kernel_rfl) (fun _ _ _ h=>h) (Or.inr ⟨by kernel_rfl,rfl⟩) h5 ?_;simp only [Act.put,List.setIfInBounds_toArray,List.set_cons_zero,List.set_cons_succ,List.getElem_toArray,List.getElem_cons_succ,List.getElem_cons_zero];refine wpAnyH_take (i:=13) (v:=undef) rfl (by kernel_rfl) (by kernel_rfl) (by kernel_rfl) (fun _ _ _ h=>h) (Or.inr ⟨by kernel_rfl,rfl⟩) h5 ?_;simp only [Act.put,List.setIfInBounds_toArray,List.set_cons_zero,List.set_cons_succ,List.getElem_toArray,List.getElem_cons_succ,List.getElem_cons_zero];refine wpAnyH_take (i:=14) (v:=undef) rfl (by kernel_rfl) (by kernel_rfl) (by kernel_rfl) (fun _ _ _ h=>h) (Or.inr ⟨by kernel_rfl,rfl⟩) h5 ?_;simp only [Act.put,List.setIfInBounds_toArray,List.set_cons_zero,List.set_cons_succ,List.getElem_toArray,List.getElem_cons_succ,List.getElem_cons_zero];refine wpAnyH_take (i:=15) (v:=undef) rfl (by kernel_rfl) (by kernel_rfl) (by kernel_rfl) (fun _ _ _ h=>h) (Or.inr ⟨by kernel_rfl,rfl⟩) h5 ?_;simp only [Act.put,List.setIfInBounds_toArray,List.set_cons_zero,List.set_cons_succ,List.getElem_toArray,List.getElem_cons_succ,List.getElem_cons_zero];refine wpAnyH_take (i:=16) (v:=undef) rfl (by kernel_rfl) (by kernel_rfl) (by kernel_rfl) (fun _ _ _ h=>h) (Or.inr ⟨by kernel_rfl,rfl⟩) h5 ?_;simp only [Act.put,List.setIfInBounds_toArray,List.set_cons_zero,List.set_cons_succ,List.getElem_toArray,List.getElem_cons_succ,List.getElem_cons_zero];refine wpAnyH_take (i:=17) (v:=undef) rfl (by kernel_rfl) (by kernel_rfl) (by kernel_rfl) (fun _ _ _ h=>h) (Or.inr ⟨by kernel_rfl,rfl⟩) h5 ?_;simp only [Act.put,List.setIfInBounds_toArray,List.set_cons_zero,List.set_cons_succ,List.getElem_toArray,List.getElem_cons_succ,List.getElem_cons_zero];refine wpAnyH_take (i:=18) (v:=undef) rfl (by kernel_rfl) (by kernel_rfl) (by kernel_rfl) (fun _ _ _ h=>h) (Or.inr ⟨by kernel_rfl,rfl⟩) h5 ?_;simp only [Act.put,List.setIfInBounds_toArray,List.set_cons_zero,List.set_cons_succ,List.getElem_toArray,List.getElem_cons_succ,List.getElem_cons_zero];refine wpAnyH_take (i:=19) (v:= .bool true) rfl (by kernel_rfl) (by kernel_rfl) (by kernel_rfl) (fun _ _ _ h=>h) (Or.inl ⟨by kernel_rfl,fun W' hS=>?_⟩) h5 ?_
      · go_simp
      simp only [Act.put,List.setIfInBounds_toArray,List.set_cons_zero,List.set_cons_succ,List.getElem_toArray,List.getElem_cons_succ,List.getElem_cons_zero];refine wpAnyH_done (by kernel_rfl) ?_ _;clear h5;go_wp2_with fail;go_ret;exact ⟨by rw [HF.out];rfl,HQ.out⟩
    by_cases ha:r.a=a+k
    · have q1:(r.a != a+(k:Int))=false:=by simpa using ha
      have HA:=zid ha
      clear ha;rw [hob] at P;have HF:=zid (HNX.out (zcX.1 hob) HA.out);unfold zbc at P;replace P:=zid P;clear hob;go_wp2_with fail;clear x0 x1 x2 x3 x4 x5 x6 x7 x8 x9 x10 x11 x12 x13 x14
      go_region_held3 (fun W=>W.cell? ⟨w.heap.size,14,none⟩=some (.slice (some ⟨g,off,none⟩) vn vc)/\W.cell? ⟨w.heap.size,6,none⟩=some (.int .i64 a)/\W.cell? ⟨g,off+k*3,none⟩=some (.int .i64 r.a)/\W.cell? ⟨g,off+k*3+1,none⟩=some (.int .i64 r.t)/\W.cell? ⟨g,off+k*3+2,none⟩=some (.string r.d)/\zbe w.heap.size #[.int .i64 2,.int .i64 f,.int .i64 t,.int .i64 i,.int .i64 p,.int .i64 q,.int .i64 a,.int .i64 wd,.int .i64 h,.int .i64 wt,.int .i64 x,.int .i64 z,.int .u32 s,.string d,.slice (some ⟨g,off,none⟩) vn vc] w W) (first | assumption | exact zeR (by assumption) (Below.refl _ _).drew | exact zeR (by assumption) (by assumption)) (first | (go_at_call 31;refine (P.out _).mono ?_;rintro e w4 ⟨rfl,b4⟩))
      rename_i qq;have HQ:=zid qq.2.2.2.2.2;clear qq u1;go_wp2_with fail
      go_roundw
      case rel=>exact ⟨k+1,by omega,by go_num,HF.out,HQ.out⟩
      case measure=>simp [intOf];omega
    · have q1:(r.a != a+(k:Int))=true:=by simpa using ha
      have HF:=zid (HBAD.out fun h=>ha h.2)
      clear ha;rw [hob] at P;unfold zbc at P;replace P:=zid P;clear hob;go_wp2_with fail;clear x0 x1 x2 x3 x4 x5 x6 x7 x8 x9 x10 x11 x12 x13 x14
      go_region_held3 (fun W=>W.cell? ⟨w.heap.size,14,none⟩=some (.slice (some ⟨g,off,none⟩) vn vc)/\W.cell? ⟨w.heap.size,6,none⟩=some (.int .i64 a)/\W.cell? ⟨g,off+k*3,none⟩=some (.int .i64 r.a)/\W.cell? ⟨g,off+k*3+1,none⟩=some (.int .i64 r.t)/\W.cell? ⟨g,off+k*3+2,none⟩=some (.string r.d)/\zbe w.heap.size #[.int .i64 2,.int .i64 f,.int .i64 t,.int .i64 i,.int .i64 p,.int .i64 q,.int .i64 a,.int .i64 wd,.int .i64 h,.int .i64 wt,.int .i64 x,.int .i64 z,.int .u32 s,.string d,.slice (some ⟨g,off,none⟩) vn vc] w W) (first | assumption | exact zeR (by assumption) (Below.refl _ _).drew | exact zeR (by assumption) (by assumption)) (first | (go_at_call 31;refine (P.out _).mono ?_;rintro e w4 ⟨rfl,b4⟩))
      rename_i qq;have HQ:=zid qq.2.2.2.2.2.2;clear qq u1;go_wp2_with fail;go_ret;exact ⟨by rw [HF.out];rfl,HQ.out⟩
  · obtain rfl:k=vn:=by omega
    have HF:=zid (HY.out (by rw [<-HVL.out];exact HS.out))
    go_wp2_with fail;go_ret;exact ⟨by rw [HF.out];rfl,HX.out.2⟩
theorem zcN (v:Value) (m:Ms) (w:World) (hh:Head m) (k1:(m.k==1)=false) (k2:(m.k==2)=false) (k3:(m.k==3)=false):
 Calls Try.prog 14 #[zag v m] w fun e w'=>e= .returned (.bool false)/\Below w.heap.size w w':=by
 obtain ⟨h1,h2,h3,h4,h5,h6,h7,h8⟩:=zbu hh;have C:=zid fun (n hi:Int) (W:World)=>zaP n hi W;clear hh;obtain ⟨k,f,t,i,p,q,a,wd,h,wt,x,z,s,d,l⟩:=m;unfold zag;dsimp only at*;have HA:=zid ((Below.refl w.heap.size w).alloc (Nat.le_refl _) (.cells #[.int .i64 k,.int .i64 f,.int .i64 t,.int .i64 i,.int .i64 p,.int .i64 q,.int .i64 a,.int .i64 wd,.int .i64 h,.int .i64 wt,.int .i64 x,.int .i64 z,.int .u32 s,.string d,v] 25));obtain ⟨x0,x1,x2,x3,x4,x5,x6,x7,x8,x9,x10,x11,x12,x13,x14⟩:=zaa (zav w #[.int .i64 k,.int .i64 f,.int .i64 t,.int .i64 i,.int .i64 p,.int .i64 q,.int .i64 a,.int .i64 wd,.int .i64 h,.int .i64 wt,.int .i64 x,.int .i64 z,.int .u32 s,.string d,v]);have HA2:=zid (HA.out.alloc HA.out.size (.cells #[.int .i64 k,.int .i64 f,.int .i64 t,.int .i64 i,.int .i64 p,.int .i64 q,.int .i64 a,.int .i64 0,.int .i64 0,.int .i64 0,.int .i64 0,.int .i64 0,.int .u32 0,.string ⟨#[]⟩,.slice none 0 0] 25));have HA1:=zid (zc2 w (.cells #[.int .i64 k,.int .i64 f,.int .i64 t,.int .i64 i,.int .i64 p,.int .i64 q,.int .i64 a,.int .i64 wd,.int .i64 h,.int .i64 wt,.int .i64 x,.int .i64 z,.int .u32 s,.string d,v] 25) (.cells #[.int .i64 k,.int .i64 f,.int .i64 t,.int .i64 i,.int .i64 p,.int .i64 q,.int .i64 a,.int .i64 0,.int .i64 0,.int .i64 0,.int .i64 0,.int .i64 0,.int .u32 0,.string ⟨#[]⟩,.slice none 0 0] 25));obtain ⟨y0,y1,y2,y3,y4,y5,y6,y7,y8,y9,y10,y11,y12,y13,y14⟩:=zaa (HA1.out.trans (zav w _))
 go_enter Try.func14,Try.ntmps14
 go_wp2_with ((with_reducible refine (C.out _ _ _).mono ?_);rintro e w' ⟨rfl,rfl⟩)
 go_ret;exact ⟨rfl,HA2.out⟩
theorem zaH (va:Option Addr) (vn vc:Nat) (m:Ms) (b:Bool) (w:World) (hv:zae w (.slice va vn vc) m.l) (hB:MsB m) (hb:b=true↔Ok m):
 Calls Try.prog 14 #[zag (.slice va vn vc) m] w fun e w'=>e= .returned (.bool b)/\Below w.heap.size w w':=by
 by_cases hh:Head m
 · have ht:b=true↔Tail m:=hb.trans ⟨fun h=>h.2,fun h=>⟨hh,h⟩⟩
   by_cases k1:m.k=1
   · exact zcO va vn vc m b w hv hh k1 ht
   by_cases k2:m.k=2
   · exact zcQ va vn vc m b w hv hh k2 ht
   by_cases k3:m.k=3
   · exact zcP va vn vc m b w hv hB.s hh k3 ht
   obtain rfl:b=false:=by rw [<-Bool.not_eq_true,ht];exact zdy k1 k2 k3
   exact zcN _ m w hh (by simpa using k1) (by simpa using k2) (by simpa using k3)
 · obtain rfl:b=false:=by rw [<-Bool.not_eq_true,hb];exact fun h=>hh h.1
   exact zdj _ m w hh
end Wr
section
open Go.RowKit
theorem zfl (s:ByteArray) (k:Nat) (w:World) (hs:s.size<=140737488351232) (hk:k<s.size):
 Calls Try.prog 26 #[.string s,.int .i64 k] w fun e w'=>e= .returned (zdw s k)/\Below w.heap.size w w':=by
 have hk0:decide ((k:Int)<0)=false:=by simp
 have hk1:decide ((s.size:Int)<=(k:Int))=false:=by simp;omega
 have C:=zid fun W:World=>zfm s k W (by unfold maxLen;omega) (by omega);have D:=zid fun W:World=>zdl s (k:Int) W (by omega)
 have hL:(s.data.toList.drop k).length=s.size-k:=by rw [List.length_drop];rfl
 have HL:=zid hL;clear hL
 by_cases hc:Fr.cutB (s.data.toList.drop k)=true
 · rw [hc] at C
   have HV:=zid (zaD (Fr.nx_cut hc) (by omega))
   clear hc
   go_enter Try.func26,Try.ntmps26
   go_wp2_with fail;refine (C.out _).mono ?_;rintro e w' ⟨rfl,rfl⟩;go_wp2_with fail;go_ret3;exact ⟨by rw [HV.out];rfl,Below.refl _ _⟩
 have hc:Fr.cutB (s.data.toList.drop k)=false:=by simpa using hc
 rw [hc] at C
 have e0:rdAt s (k:Int)=zcm (s.data.toList.drop k) k:=by unfold rdAt;rw [if_neg (by omega)];simp
 rw [e0] at D;clear e0
 rcases ht:Vp.take (s.data.toList.drop k) with _ | ⟨m,j⟩
 · rw [zay k ht] at D
   have HV:=zid (zaD (Fr.nx_none hc ht) (by omega))
   clear hc ht
   go_enter Try.func26,Try.ntmps26
   go_wp2_with fail;refine (C.out _).mono ?_;rintro e w' ⟨rfl,rfl⟩;go_wp2_with fail;refine (D.out _).mono ?_;rintro e w1 ⟨rfl,b1⟩;go_wp2_with fail;go_ret3;exact ⟨by rw [HV.out];rfl,b1⟩
 rw [zaU k ht] at D;obtain ⟨hj0,hj9,hjl,hm63⟩:=Vp.take_some ht;rw [HL.out] at hjl;obtain ⟨q,hq⟩:∃q,k+j=q:=⟨_,rfl⟩
 have hq1:k<=q:=by omega
 have hq2:q<=s.size:=by omega
 rw [show (k:Int)+(j:Int)=(q:Int) from by omega] at D;have HQ:=zid hq;have HT:=zid ht;have HJ:=zid (show j=q-k by omega);clear hq hc ht
 by_cases hm:Fr.May m
 · have hm1:1<=(m:Int):=by have:=hm.1;omega
   have hm2:(m:Int)<=65536:=by have:=hm.2;omega
   have d1:decide ((m:Int)<1)=false:=by simp;omega
   have d2:decide (65536<(m:Int))=false:=by simp;omega
   have HM:=zid hm;clear hm
   by_cases hl:(s.size:Int)-(q:Int)<4+(m:Int)
   · have HV:=zid (zaD (Fr.nx_short HT.out HM.out (by rw [HL.out];have:=HQ.out;omega)) (by omega))
     clear hjl hj0 hj9
     go_enter Try.func26,Try.ntmps26
     go_wp2_with fail;refine (C.out _).mono ?_;rintro e w' ⟨rfl,rfl⟩;go_wp2_with fail;refine (D.out _).mono ?_;rintro e w1 ⟨rfl,b1⟩;go_wp2_with fail;go_ret3;exact ⟨by rw [HV.out];rfl,b1⟩
   · have hl':q+4+m<=s.size:=by omega
     have HNL:Hid (¬(s.data.toList.drop k).length<j+4+m):=zid (by rw [HL.out];have:=HQ.out;omega)
     have hl2:4+(m:Int)<=(s.size:Int)-(q:Int):=by omega
     clear hl hjl hj0 hj9
     go_enter Try.func26,Try.ntmps26
     go_wp2_with fail;refine (C.out _).mono ?_;rintro e w' ⟨rfl,rfl⟩;go_wp2_with fail;refine (D.out _).mono ?_;rintro e w1 ⟨rfl,b1⟩;go_wp2_with fail;obtain ⟨B,hB⟩:∃B,s.extract (q+4) (q+4+m)=B:=⟨_,rfl⟩
     have hBs:B.size=m:=by rw [<-hB,ByteArray.size_extract];omega
     rw [hB];have HB:=zid hB;have F:=zid fun W:World=>zbB B W (by rw [hBs];exact HM.out);clear hB hBs;have hFl:=Fr.fr_len B.data.toList;obtain ⟨f,hf⟩:∃f,Fr.fr B.data.toList=f:=⟨_,rfl⟩;rw [hf] at F;have HF:=zid hf;clear hf hFl;refine (F.out _).mono ?_;rintro e w2 ⟨rfl,b2⟩
     have e2:B.data.toList=((s.data.toList.drop k).drop (j+4)).take m:=by
      rw [<-HB.out,zaN,List.drop_drop,show k+(j+4)=q+4 from by have:=HQ.out;omega,show q+4+m-(q+4)=m from by omega]
     have e3:(s.extract k (q+4+m)).data.toList=(s.data.toList.drop k).take (j+4+m):=by
      rw [zaN,show q+4+m-k=j+4+m from by have:=HQ.out;omega]
     have hsum:=Fr.sum_iff HT.out HNL.out;rw [<-e2,HF.out, <-e3] at hsum
     by_cases heq:f=(s.extract k (q+4+m)).data.toList
     · have HV:=zbD (Fr.nx_ok HT.out HM.out HNL.out (by rw [<-e2];exact hsum.2 heq))
       rw [<-e2,show k+(j+4+m)=q+4+m from by have:=HQ.out;omega] at HV
       have HV:=zid HV
       have hd:(!f==(s.extract k (q+4+m)).toList)=false:=by rw [Lib.toList_data,heq];simp
       clear hsum e2 e3 heq;go_wp2_with fail;go_ret3;refine ⟨?_,zaM b1 b2⟩;rw [HV.out]
       rfl
     · have HV:=zid (zaD (Fr.nx_sum HT.out HM.out HNL.out (by rw [<-e2];exact fun hh=>heq (hsum.1 hh))) (by omega))
       have hd:(!f==(s.extract k (q+4+m)).toList)=true:=by rw [Lib.toList_data];simpa using heq
       clear hsum e2 e3 heq;go_wp2_with fail;go_ret3;refine ⟨?_,zaM b1 b2⟩;rw [HV.out]
       rfl
 · have HV:=zid (zaD (Fr.nx_form HT.out hm) (by omega))
   have hm':m<1\/65536<m:=by unfold Fr.May at hm;omega
   clear hm hjl hj0 hj9
   rcases hm' with h1 | h1
   · have h2:(m:Int)<1:=by omega
     clear h1
     go_enter Try.func26,Try.ntmps26
     go_wp2_with fail;refine (C.out _).mono ?_;rintro e w' ⟨rfl,rfl⟩;go_wp2_with fail;refine (D.out _).mono ?_;rintro e w1 ⟨rfl,b1⟩;go_wp2_with fail;go_ret3;exact ⟨by rw [HV.out];rfl,b1⟩
   · have h2:(65536:Int)<(m:Int):=by omega
     have h3:decide ((m:Int)<1)=false:=by simp;omega
     clear h1
     go_enter Try.func26,Try.ntmps26
     go_wp2_with fail;refine (C.out _).mono ?_;rintro e w' ⟨rfl,rfl⟩;go_wp2_with fail;refine (D.out _).mono ?_;rintro e w1 ⟨rfl,b1⟩;go_wp2_with fail;go_ret3;exact ⟨by rw [HV.out];rfl,b1⟩
theorem zcC (s:ByteArray) (i:Int) (w:World) (hs:s.size<=140737488351232):
 Calls Try.prog 26 #[.string s,.int .i64 i] w fun e w'=>e= .returned (nxAt s i)/\Below w.heap.size w w':=by
 by_cases h:i<0\/(s.size:Int)<=i
 · rw [zel h]
   exact (zeM s i w h).mono fun _ _ ⟨he,hw⟩=>⟨he,by rw [<-hw];exact Below.refl _ _⟩
 · obtain ⟨k,rfl⟩:∃k:Nat,i=(k:Int):=⟨i.toNat,by omega⟩
   rw [zbQ]
   exact zfl s k w hs (by omega)
end
end Go.Proofs.Ytmkdcpjlhphhiaa

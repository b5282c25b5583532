/-
  Parts of what the laws of this seat stand on:RecGet,RecGetC,RecOpen,RecOwn,FrameRnext.
-/
import Derived.Test.YtooipogbmfkeeaaGreatQr1
import Derived.ChangeArms
import Derived.Deep.Slices
import Derived.Deep.Strs
import Derived.Lib.Builder
import Derived.Lib.SmallJoins
import Derived.Test.YtooipogbmfkeeaaGreatQr16
import Derived.Test.YtooipogbmfkeeaaGreatQr22
set_option maxRecDepth 100000
set_option maxHeartbeats 6400000
namespace Go.Proofs.YtooipogbmfkeeaaGreat
section
open Go.RowKit
def zcM (l:List UInt8):Value:= .tuple #[za3 (Rp.get l).1,.int .i64 (Rp.get l).2]
theorem zbG {l:List UInt8} {e:Int} (h:Rp.get l=(Rp.zero,e)):zcM l= .tuple #[.agg #[.int .i64 0,.int .i64 0,.string ⟨#[]⟩],.int .i64 e]:=by
 unfold zcM;rw [h]
 rfl
theorem zdg {l:List UInt8} {r:Rp.Rec} (h:Rp.get l=(r,0)):zcM l= .tuple #[za3 r,.int .i64 0]:=by
 unfold zcM;rw [h]
theorem zkQ (s:ByteArray) (w:World) (hs:s.size<=9223372036854775807) (ht:Vp.take s.data.toList=none):
 Calls Tryz.prog 136 #[.string s] w fun e w'=>e= .returned (zcM s.data.toList)/\Below w.heap.size w w':=by
 have C:=fun W:World=>rread_any s 0 W hs;rw [show rdAt s 0= .tuple #[.int .i64 0,.int .i64 0,.bool false] from zaO 0 ht] at C;have C:=zid C;have HV:=zid (zbG (Rp.get_none ht));clear ht
 go_enter Tryz.func136,Tryz.ntmps136
 go_wp2_with fail;refine (C.out _).mono ?_;rintro e w1 ⟨rfl,b1⟩;obtain ⟨hc,hf⟩:=bcell b1;go_wp2_with fail;have hb:Below w.heap.size w w1:=zat b1
 exact bodyPost_ret (v:= .tuple #[.agg #[.int .i64 0,.int .i64 0,.string ⟨#[]⟩],.int .i64 3]) (by simp [results,Tryz.results136,go_sem,hc]) rfl
  ⟨by rw [HV.out],((hb.setCell (p:=⟨w.heap.size,0,none⟩) (Nat.le_refl _) _).setCell (p:=⟨w.heap.size,1,none⟩) (Nat.le_refl _) _).setCell (p:=⟨w.heap.size,2,none⟩) (Nat.le_refl _) _⟩
theorem zkR (s:ByteArray) (w:World) (hs:s.size<=9223372036854775807) (n j:Nat) (ht:Vp.take s.data.toList=some (n,j)) (ht2:Vp.take (s.data.toList.drop j)=none):
 Calls Tryz.prog 136 #[.string s] w fun e w'=>e= .returned (zcM s.data.toList)/\Below w.heap.size w w':=by
 have C:=fun W:World=>rread_any s ((0:Nat):Int) W hs;rw [za5 (k:=0) ht (Nat.zero_add j)] at C;have C:∀W:World,Calls Tryz.prog 60 #[.string s,.int .i64 0] W fun e w'=>e= .returned (.tuple #[.int .i64 (n:Int),.int .i64 (j:Int),.bool true])/\Below W.heap.size W w':=C;have C:=zid C;have D:=fun W:World=>rread_any s (j:Int) W hs;rw [zcp ht2] at D;have D:=zid D;have HV:=zid (zbG (Rp.get_half ht ht2));clear ht ht2
 go_enter Tryz.func136,Tryz.ntmps136
 go_wp2_with fail;refine (C.out _).mono ?_;rintro e w1 ⟨rfl,b1⟩;go_wp2_with fail;refine (D.out _).mono ?_;rintro e w2 ⟨rfl,b2⟩;have b12:=zaf b1 b2;obtain ⟨hc,hf⟩:=bcell b12;go_wp2_with fail;have hb:Below w.heap.size w w2:=zat b12
 exact bodyPost_ret (v:= .tuple #[.agg #[.int .i64 0,.int .i64 0,.string ⟨#[]⟩],.int .i64 3]) (by simp [results,Tryz.results136,go_sem,hc]) rfl
  ⟨by rw [HV.out],((hb.setCell (p:=⟨w.heap.size,0,none⟩) (Nat.le_refl _) _).setCell (p:=⟨w.heap.size,1,none⟩) (Nat.le_refl _) _).setCell (p:=⟨w.heap.size,2,none⟩) (Nat.le_refl _) _⟩
theorem zjF (s:ByteArray) (w:World) (hs:s.size<=9223372036854775807) (n j m k:Nat) (ht:Vp.take s.data.toList=some (n,j)) (ht2:Vp.take (s.data.toList.drop j)=some (m,k)):
 Calls Tryz.prog 136 #[.string s] w fun e w'=>e= .returned (zcM s.data.toList)/\Below w.heap.size w w':=by
 have C:=fun W:World=>rread_any s ((0:Nat):Int) W hs;rw [za5 (k:=0) ht (Nat.zero_add j)] at C;have C:∀W:World,Calls Tryz.prog 60 #[.string s,.int .i64 0] W fun e w'=>e= .returned (.tuple #[.int .i64 (n:Int),.int .i64 (j:Int),.bool true])/\Below W.heap.size W w':=C;have C:=zid C;obtain ⟨q,hq⟩:∃q,j+k=q:=⟨_,rfl⟩;have D:=fun W:World=>rread_any s (j:Int) W hs;rw [za5 ht2 hq] at D;have D:=zid D;have hjl:=(Vp.take_some ht).2.2.1;have hkl:=(Vp.take_some ht2).2.2.1;rw [List.length_drop] at hkl;rw [show s.data.toList.length=s.size from rfl] at hjl hkl
 have q0:(0:Int)<=(q:Int):=by omega
 have q1:(q:Int)<=(s.size:Int):=by omega
 have E:=fun W:World=>zkh ⟨(n:Int),(m:Int),s.extract q s.size⟩ W (by show (s.extract q s.size).size<=_;rw [ByteArray.size_extract];omega);have hG:= @Rp.get_bad s.data.toList n j m k ht ht2;have hY:= @Rp.get_yes s.data.toList n j m k ht ht2;rw [hq,zga] at hG hY;clear ht ht2 hq hjl hkl;unfold za3 at E;dsimp only at E
 rcases Rp.fault_cases ⟨(n:Int),(m:Int),s.extract q s.size⟩ with ⟨hf0,_⟩ | ⟨_,hf0⟩
 · have HV:=zid (zdg (hY hf0))
   rw [hf0] at E
   have E:=zid E;clear hf0 hG hY
   go_enter Tryz.func136,Tryz.ntmps136
   go_wp2_with fail;refine (C.out _).mono ?_;rintro e w1 ⟨rfl,b1⟩;go_wp2_with fail;refine (D.out _).mono ?_;rintro e w2 ⟨rfl,b2⟩;have b12:=zaf b1 b2;go_wp2_with fail;refine (E.out _).mono ?_;rintro e w3 ⟨rfl,b3⟩;obtain ⟨x0,x1,x2,b23⟩:=zdi (zeS w2 _ _ _ _) b3;have b123:=zaf b12 b23;obtain ⟨hc,hf⟩:=bcell b123;go_wp2_with fail;have hb:Below w.heap.size w w3:=zat b123
   exact bodyPost_ret (v:= .tuple #[.agg #[.int .i64 (n:Int),.int .i64 (m:Int),.string (s.extract q s.size)],.int .i64 0]) (by simp [results,Tryz.results136,go_sem,hc]) rfl
    ⟨by rw [HV.out];rfl,((hb.setCell (p:=⟨w.heap.size,0,none⟩) (Nat.le_refl _) _).setCell (p:=⟨w.heap.size,1,none⟩) (Nat.le_refl _) _).setCell (p:=⟨w.heap.size,2,none⟩) (Nat.le_refl _) _⟩
 · obtain ⟨e0,he0⟩:∃e0,Rp.fault ⟨(n:Int),(m:Int),s.extract q s.size⟩=e0:=⟨_,rfl⟩
   rw [he0] at E hf0 hG
   have HV:=zid (zbG (hG (by omega)));have E:=zid E;clear hG hY he0
   rcases hf0 with rfl | rfl
   all_goals
    go_enter Tryz.func136,Tryz.ntmps136
    go_wp2_with fail;refine (C.out _).mono ?_;rintro e w1 ⟨rfl,b1⟩;go_wp2_with fail;refine (D.out _).mono ?_;rintro e w2 ⟨rfl,b2⟩;have b12:=zaf b1 b2;go_wp2_with fail;refine (E.out _).mono ?_;rintro e w3 ⟨rfl,b3⟩;have b123:=zaf b12 (zat b3);obtain ⟨hc,hf⟩:=bcell b123;go_wp2_with fail;have hb:Below w.heap.size w w3:=zat b123
    refine bodyPost_ret (v:= .tuple #[.agg #[.int .i64 0,.int .i64 0,.string ⟨#[]⟩],.int .i64 _]) (by simp [results,Tryz.results136,go_sem,hc];rfl) rfl
     ⟨by rw [HV.out],((hb.setCell (p:=⟨w.heap.size,0,none⟩) (Nat.le_refl _) _).setCell (p:=⟨w.heap.size,1,none⟩) (Nat.le_refl _) _).setCell (p:=⟨w.heap.size,2,none⟩) (Nat.le_refl _) _⟩
theorem made_func (fn:Fn) (first cap:Array Value) (w:World):(Instr.makeFunc fn first cap).run Tryz.prog w= .ok (.func fn first cap) w:=rfl
structure GB (w:World) (s:ByteArray) (i:Int) (W:World):Prop where
 h0:W.heap[w.heap.size]?=some (.cells #[.string s] 9 (0,0))
 h1:W.heap[w.heap.size+1]?=some (.cells #[.int .i64 0,.int .i64 0,.string ⟨#[]⟩] 49 (0,0))
 h2:W.heap[w.heap.size+1+1]?=some (.cells #[.int .i64 i] 3 (0,0))
 b:Below w.heap.size w W
theorem GB.lt {w W:World} {s:ByteArray} {i:Int} (h:GB w s i W):w.heap.size+1+1<W.heap.size:=by
 rcases Nat.lt_or_ge (w.heap.size+1+1) W.heap.size with h' | h'
 · exact h'
 · have:=h.h2
   simp [Array.getElem?_eq_none h'] at this
theorem zcE {w:World} {o:Obj} {k:Nat} {x:Obj} (h:w.heap[k]?=some x):(w.alloc o).heap[k]?=some x:=by
 rw [Lib.alloc_old w o k (by
  rcases Nat.lt_or_ge k w.heap.size with h' | h'
  · exact h'
  · simp [Array.getElem?_eq_none h'] at h)]
 exact h
theorem GB.new (w:World) (s:ByteArray):GB w s 0 (((w.alloc (.cells #[.string s] 9)).alloc (.cells #[.int .i64 0,.int .i64 0,.string ⟨#[]⟩] 49)).alloc (.cells #[.int .i64 0] 3)):=by
 refine ⟨zcE (zcE (heap_alloc_new w _)),?_,?_,((((Below.refl _ _).alloc (Nat.le_refl _) _).alloc (by simp) _).alloc (by simp;omega) _)⟩
 · refine zcE ?_
   have:=heap_alloc_new (w.alloc (.cells #[.string s] 9)) (.cells #[.int .i64 0,.int .i64 0,.string ⟨#[]⟩] 49)
   simpa using this
 · have:=heap_alloc_new ((w.alloc (.cells #[.string s] 9)).alloc (.cells #[.int .i64 0,.int .i64 0,.string ⟨#[]⟩] 49)) (.cells #[.int .i64 0] 3)
   simpa using this
theorem GB.step {w W:World} {s:ByteArray} {i:Int} (h:GB w s i W) (k:Nat) (x:Int):GB w s x ((W.drewN k).setCell ⟨w.heap.size+1+1,0,none⟩ (.int .i64 x)):=by
 refine ⟨?_,?_,heap_setCell_same (W.drewN k) (w.heap.size+1+1) 0 #[.int .i64 i] 3 (.int .i64 x) h.h2,(h.b.trans ((zb3 k).mono h.b.size)).setCell (p:=⟨w.heap.size+1+1,0,none⟩) (by show w.heap.size<=w.heap.size+1+1;omega) _⟩
 · rw [heap_setCell_other _ _ _ _ (by show w.heap.size≠w.heap.size+1+1;omega)];exact h.h0
 · rw [heap_setCell_other _ _ _ _ (by show w.heap.size+1≠w.heap.size+1+1;omega)];exact h.h1
theorem GB.below {w W W':World} {s:ByteArray} {i:Int} (h:GB w s i W) (b:Below W.heap.size W W'):GB w s i W':=by
 have hl:=h.lt;refine ⟨?_,?_,?_,h.b.trans (b.mono h.b.size)⟩
 · rw [b.block _ (by omega)];exact h.h0
 · rw [b.block _ (by omega)];exact h.h1
 · rw [b.block _ (by omega)];exact h.h2
theorem GB.c0 {w W:World} {s:ByteArray} {i:Int} (h:GB w s i W):W.cell? ⟨w.heap.size,0,none⟩=some (.string s):=by rw [Lib.cell_of_heap h.h0];rfl
theorem GB.c2 {w W:World} {s:ByteArray} {i:Int} (h:GB w s i W):W.cell? ⟨w.heap.size+1+1,0,none⟩=some (.int .i64 i):=by rw [Lib.cell_of_heap h.h2];rfl
theorem GB.f2 {w W:World} {s:ByteArray} {i:Int} (h:GB w s i W):W.frozen? ⟨w.heap.size+1+1,0,none⟩=false:=Lib.frozen_of_heap h.h2 0
theorem GB.r {w W:World} {s:ByteArray} {i:Int} (h:GB w s i W):W.cell? ⟨w.heap.size+1,0,none⟩=some (.int .i64 0)/\W.cell? ⟨w.heap.size+1,1,none⟩=some (.int .i64 0)/\W.cell? ⟨w.heap.size+1,2,none⟩=some (.string ⟨#[]⟩):=
 ⟨by rw [Lib.cell_of_heap h.h1];rfl,by rw [Lib.cell_of_heap h.h1];rfl,by rw [Lib.cell_of_heap h.h1];rfl⟩
theorem GB.g {w W:World} {s:ByteArray} {i:Int} (h:GB w s i W):W.frozen? ⟨w.heap.size+1,0,none⟩=false/\W.frozen? ⟨w.heap.size+1,1,none⟩=false/\W.frozen? ⟨w.heap.size+1,2,none⟩=false:=
 ⟨Lib.frozen_of_heap h.h1 0,Lib.frozen_of_heap h.h1 1,Lib.frozen_of_heap h.h1 2⟩
theorem GB.set {w W:World} {s:ByteArray} {i:Int} (h:GB w s i W) (x y z:Value):Below w.heap.size w (((W.setCell ⟨w.heap.size+1,0,none⟩ x).setCell ⟨w.heap.size+1,1,none⟩ y).setCell ⟨w.heap.size+1,2,none⟩ z):=
 ((h.b.setCell (p:=⟨w.heap.size+1,0,none⟩) (Nat.le_succ _) _).setCell (p:=⟨w.heap.size+1,1,none⟩) (Nat.le_succ _) _).setCell (p:=⟨w.heap.size+1,2,none⟩) (Nat.le_succ _) _
theorem zeN (s:ByteArray) (i n nx:Int) (ok:Bool) (b1 b2:Nat) (w:World) (hs:s.size<=9223372036854775807)
 (hr:rdAt s i= .tuple #[.int .i64 n,.int .i64 nx,.bool ok])
 (h1:w.cell? ⟨b1,0,none⟩=some (.string s)) (h2:w.cell? ⟨b2,0,none⟩=some (.int .i64 i)) (hf:w.frozen? ⟨b2,0,none⟩=false):
 Calls Tryz.prog 165 #[.pointer (some ⟨b1,0,none⟩),.pointer (some ⟨b2,0,none⟩)] w fun e w'=>e= .returned (.tuple #[.int .i64 n,.bool ok])/\∃k,w'=(w.drewN k).setCell ⟨b2,0,none⟩ (.int .i64 nx):=by
 have C:=fun W:World=>read_any s i W hs;rw [hr] at C;have C:=zid C;clear hr
 go_enter Tryz.func165,Tryz.ntmps165
 go_wp2_with fail;refine (C.out _).mono ?_;rintro e w1 ⟨rfl,k,rfl⟩;go_wp2_with fail;go_ret2;exact ⟨rfl,k,rfl⟩
theorem get_none (s:ByteArray) (w:World) (hs:s.size<=9223372036854775807) (ht:Vp.take s.data.toList=none):
 Calls Tryz.prog 151 #[.string s] w fun e w'=>e= .returned (zcM s.data.toList)/\Below w.heap.size w w':=by
 have C:=fun b1 b2 (W:World)=>zeN s 0 0 0 false b1 b2 W hs (zaO 0 ht);have C:=zid C;have HV:=zid (zbG (Rp.get_none ht));have hmf:=made_func;clear ht
 go_enter Tryz.func151,Tryz.ntmps151
 go_wp2_with fail;have G0:=GB.new w s;refine (C.out _ _ _ G0.c0 G0.c2 G0.f2).mono ?_;rintro e w1 ⟨rfl,k,rfl⟩;have G1:=G0.step k 0;generalize World.setCell _ _ _=w1 at G1 ⊢;have HG:=zid G1;obtain ⟨r0,r1,r2⟩:=G1.r;obtain ⟨g0,g1,g2⟩:=G1.g;clear G0 G1;go_wp2_with fail
 exact bodyPost_ret (v:= .tuple #[.agg #[.int .i64 0,.int .i64 0,.string ⟨#[]⟩],.int .i64 3]) (by simp [results,Tryz.results151,go_sem,r0,r1,r2]) rfl
  ⟨by rw [HV.out],HG.out.set _ _ _⟩
theorem get_half (s:ByteArray) (w:World) (hs:s.size<=9223372036854775807) (n j:Nat) (ht:Vp.take s.data.toList=some (n,j)) (ht2:Vp.take (s.data.toList.drop j)=none):
 Calls Tryz.prog 151 #[.string s] w fun e w'=>e= .returned (zcM s.data.toList)/\Below w.heap.size w w':=by
 have C:=fun b1 b2 (W:World)=>zeN s 0 n j true b1 b2 W hs (za5 (k:=0) ht (Nat.zero_add j));have C:=zid C;have D:=fun b1 b2 (W:World)=>zeN s j 0 0 false b1 b2 W hs (zcp ht2);have D:=zid D;have HV:=zid (zbG (Rp.get_half ht ht2));have hmf:=made_func;clear ht ht2
 go_enter Tryz.func151,Tryz.ntmps151
 go_wp2_with fail;have G0:=GB.new w s;refine (C.out _ _ _ G0.c0 G0.c2 G0.f2).mono ?_;rintro e w1 ⟨rfl,k,rfl⟩;have G1:=G0.step k j;generalize World.setCell _ _ _=w1 at G1 ⊢;clear G0;have HG:=zid G1;clear G1;go_wp2_with fail;refine (D.out _ _ _ HG.out.c0 HG.out.c2 HG.out.f2).mono ?_;rintro e w2 ⟨rfl,k2,rfl⟩;have G2:=HG.out.step k2 0;generalize World.setCell _ _ _=w2 at G2 ⊢;have HG2:=zid G2;obtain ⟨r0,r1,r2⟩:=G2.r;obtain ⟨g0,g1,g2⟩:=G2.g;clear G2;go_wp2_with fail
 exact bodyPost_ret (v:= .tuple #[.agg #[.int .i64 0,.int .i64 0,.string ⟨#[]⟩],.int .i64 3]) (by simp [results,Tryz.results151,go_sem,r0,r1,r2]) rfl
  ⟨by rw [HV.out],HG2.out.set _ _ _⟩
theorem zlF (s:ByteArray) (w:World) (hs:s.size<=9223372036854775807) (n j m k:Nat) (ht:Vp.take s.data.toList=some (n,j)) (ht2:Vp.take (s.data.toList.drop j)=some (m,k)):
 Calls Tryz.prog 151 #[.string s] w fun e w'=>e= .returned (zcM s.data.toList)/\Below w.heap.size w w':=by
 have C:=fun b1 b2 (W:World)=>zeN s 0 n j true b1 b2 W hs (za5 (k:=0) ht (Nat.zero_add j));have C:=zid C;obtain ⟨q,hq⟩:∃q,j+k=q:=⟨_,rfl⟩;have D:=fun b1 b2 (W:World)=>zeN s j m q true b1 b2 W hs (za5 ht2 hq);have D:=zid D;have hjl:=(Vp.take_some ht).2.2.1;have hkl:=(Vp.take_some ht2).2.2.1;rw [List.length_drop] at hkl;rw [show s.data.toList.length=s.size from rfl] at hjl hkl
 have q0:(0:Int)<=(q:Int):=by omega
 have q1:(q:Int)<=(s.size:Int):=by omega
 have E:=fun W:World=>zlO ⟨(n:Int),(m:Int),s.extract q s.size⟩ W (by show (s.extract q s.size).size<=_;rw [ByteArray.size_extract];omega);have hG:= @Rp.get_bad s.data.toList n j m k ht ht2;have hY:= @Rp.get_yes s.data.toList n j m k ht ht2;rw [hq,zga] at hG hY;clear ht ht2 hq hjl hkl;unfold za3 at E;dsimp only at E;have hmf:=made_func
 rcases Rp.fault_cases ⟨(n:Int),(m:Int),s.extract q s.size⟩ with ⟨hf0,_⟩ | ⟨_,hf0⟩
 · have HV:=zid (zdg (hY hf0))
   rw [hf0] at E
   have E:=zid E;clear hf0 hG hY
   go_enter Tryz.func151,Tryz.ntmps151
   go_wp2_with fail;have G0:=GB.new w s;refine (C.out _ _ _ G0.c0 G0.c2 G0.f2).mono ?_;rintro e w1 ⟨rfl,k1,rfl⟩;have G1:=G0.step k1 j;generalize World.setCell _ _ _=w1 at G1 ⊢;clear G0;have HG:=zid G1;clear G1;go_wp2_with fail;refine (D.out _ _ _ HG.out.c0 HG.out.c2 HG.out.f2).mono ?_;rintro e w2 ⟨rfl,k2,rfl⟩;have G2:=HG.out.step k2 q;generalize World.setCell _ _ _=w2 at G2 ⊢;have HG2:=zid G2;have x0:=G2.c0;have x2:=G2.c2;clear G2;go_wp2_with fail;refine (E.out _).mono ?_;rintro e w3 ⟨rfl,b3⟩;obtain ⟨y0,y1,y2,b23⟩:=zdi (zeS w2 _ _ _ _) b3;have G3:=HG2.out.below b23;have HG3:=zid G3;obtain ⟨r0,r1,r2⟩:=G3.r;obtain ⟨g0,g1,g2⟩:=G3.g;clear G3;go_wp2_with fail
   exact bodyPost_ret (v:= .tuple #[.agg #[.int .i64 (n:Int),.int .i64 (m:Int),.string (s.extract q s.size)],.int .i64 0]) (by simp [results,Tryz.results151,go_sem,r0,r1,r2]) rfl
    ⟨by rw [HV.out];rfl,HG3.out.set _ _ _⟩
 · obtain ⟨e0,he0⟩:∃e0,Rp.fault ⟨(n:Int),(m:Int),s.extract q s.size⟩=e0:=⟨_,rfl⟩
   rw [he0] at E hf0 hG
   have HV:=zid (zbG (hG (by omega)));have E:=zid E;clear hG hY he0
   rcases hf0 with rfl | rfl
   all_goals
    go_enter Tryz.func151,Tryz.ntmps151
    go_wp2_with fail;have G0:=GB.new w s;refine (C.out _ _ _ G0.c0 G0.c2 G0.f2).mono ?_;rintro e w1 ⟨rfl,k1,rfl⟩;have G1:=G0.step k1 j;generalize World.setCell _ _ _=w1 at G1 ⊢;clear G0;have HG:=zid G1;clear G1;go_wp2_with fail;refine (D.out _ _ _ HG.out.c0 HG.out.c2 HG.out.f2).mono ?_;rintro e w2 ⟨rfl,k2,rfl⟩;have G2:=HG.out.step k2 q;generalize World.setCell _ _ _=w2 at G2 ⊢;have HG2:=zid G2;have x0:=G2.c0;have x2:=G2.c2;clear G2;go_wp2_with fail;refine (E.out _).mono ?_;rintro e w3 ⟨rfl,b3⟩;have G3:=HG2.out.below (zat b3);have HG3:=zid G3;obtain ⟨r0,r1,r2⟩:=G3.r;obtain ⟨g0,g1,g2⟩:=G3.g;clear G3;go_wp2_with fail
    refine bodyPost_ret (v:= .tuple #[.agg #[.int .i64 0,.int .i64 0,.string ⟨#[]⟩],.int .i64 _]) (by simp [results,Tryz.results151,go_sem,r0,r1,r2];rfl) rfl
     ⟨by rw [HV.out],HG3.out.set _ _ _⟩
theorem get_any (s:ByteArray) (w:World) (hs:s.size<=9223372036854775807):
 Calls Tryz.prog 151 #[.string s] w fun e w'=>e= .returned (zcM s.data.toList)/\Below w.heap.size w w':=by
 rcases ht:Vp.take s.data.toList with _ | ⟨n,j⟩
 · exact get_none s w hs ht
 rcases ht2:Vp.take (s.data.toList.drop j) with _ | ⟨m,k⟩
 · exact get_half s w hs n j ht ht2
 · exact zlF s w hs n j m k ht ht2
theorem rget_any (s:ByteArray) (w:World) (hs:s.size<=9223372036854775807):
 Calls Tryz.prog 136 #[.string s] w fun e w'=>e= .returned (zcM s.data.toList)/\Below w.heap.size w w':=by
 rcases ht:Vp.take s.data.toList with _ | ⟨n,j⟩
 · exact zkQ s w hs ht
 rcases ht2:Vp.take (s.data.toList.drop j) with _ | ⟨m,k⟩
 · exact zkR s w hs n j ht ht2
 · exact zjF s w hs n j m k ht ht2
end
section
open Go.RowKit Go.ChangeShapes Go.WideShapes Go.Deep Go.Joins
def zbw (w:World) (v:Value) (rs:List Rp.Rec):Prop:=
 ∃a cap,v= .slice a rs.length cap/\rs.length<=maxLen/\(∀r∈rs,RecOk r)/\
  (rs=[]\/ ∃b off,a=some ⟨b,off,none⟩/\∀i,i<rs.length->
   w.cell? ⟨b,off+i*3,none⟩=some (.int .i64 (rs.getD i Rp.zero).a)/\w.cell? ⟨b,off+i*3+1,none⟩=some (.int .i64 (rs.getD i Rp.zero).t)/\w.cell? ⟨b,off+i*3+2,none⟩=some (.string (rs.getD i Rp.zero).d))
theorem zbw.nil (w:World) (a:Option Addr) (cap:Nat):zbw w (.slice a 0 cap) []:=⟨a,cap,rfl,by simp,by simp,.inl rfl⟩
section
variable {H:Type} {enc:TypeId×Value->H} {w:World} {base:Nat} {spare:Nat->Bool} {held:Bool}
theorem zhs (b off j:Nat):(⟨b,off,none⟩:Addr).add j=⟨b,off+j,none⟩:=by
 unfold Addr.add
 split<;>simp_all
end
section
variable {H:Type} {enc:TypeId×Value->H} {w:World} {base:Nat} {spare:Nat->Bool} {held:Bool}
end
end
section
open Go.RowKit
def zaN (rs:List Rp.Rec):List Value:=rs.flatMap fun r=>[.int .i64 r.a,.int .i64 r.t,.string r.d]
theorem zh3 (rs:List Rp.Rec):(zaN rs).length=rs.length*3:=by
 induction rs with
 | nil=>rfl
 | cons r rs ih=>simp [zaN] at ih ⊢;omega
theorem zdY (rs:List Rp.Rec) (r:Rp.Rec):zaN (rs++[r])=zaN rs++[.int .i64 r.a,.int .i64 r.t,.string r.d]:=by simp [zaN]
theorem zh4 (rs:List Rp.Rec):∀i,i<rs.length->(zaN rs)[i*3]?=some (.int .i64 (rs.getD i Rp.zero).a)/\(zaN rs)[i*3+1]?=some (.int .i64 (rs.getD i Rp.zero).t)/\(zaN rs)[i*3+2]?=some (.string (rs.getD i Rp.zero).d):=by
 induction rs with
 | nil=>intro i hi;simp at hi
 | cons r rs ih=>
  intro i hi;have e:zaN (r::rs)= .int .i64 r.a:: .int .i64 r.t:: .string r.d::zaN rs:=rfl;rw [e]
  cases i with
  | zero=>exact ⟨rfl,rfl,rfl⟩
  | succ i=>
   have h:=ih i (by simpa using hi);rw [show (i+1)*3=i*3+3 from by omega]
   simpa using h
theorem zi7:(Tryz.prog.info? 49).map (fun i=>(i.zero,i.size,i.bytes))=some (some (.agg #[.int .i64 0,.int .i64 0,.string ByteArray.empty]),3,32):=by kernel_rfl
theorem RecOk.of {r:Rp.Rec} (h:Rp.Ok r):RecOk r:=⟨by have:=h.1;omega,by have:=h.2.1;omega,by have:=h.2.2.1;omega,by have:=h.2.2.2.1;omega,by have:=h.2.2.2.2;omega⟩
theorem zbw.own_ok {w:World} {base n:Nat} {v:Value} {rs:List Rp.Rec} (h:w.ownsRow base 49 3 v n (zaN rs)) (hm:n<=maxLen) (hb:∀r∈rs,RecOk r):zbw w v rs:=by
 have hn:n=rs.length:=by have:=h.1;rw [zh3] at this;omega
 subst hn
 rcases h.2 with ⟨rfl,h0⟩ | ⟨g,cap,cur,rfl,h1⟩
 · have:rs=[]:=by simpa using h0
   subst this
   exact zbw.nil w none 0
 · refine ⟨some ⟨g,0,none⟩,cap,rfl,hm,hb,.inr ⟨g,0,rfl,fun i hi=>?_⟩⟩
   obtain ⟨c0,c1,c2⟩:=zh4 rs i hi
   have k0:=h.cells (g:=g) rfl _ _ c0;have k1:=h.cells (g:=g) rfl _ _ c1;have k2:=h.cells (g:=g) rfl _ _ c2;rw [zhs] at k0 k1 k2;exact ⟨k0,k1,k2⟩
theorem zbw.own {w:World} {base n:Nat} {v:Value} {rs:List Rp.Rec} (h:w.ownsRow base 49 3 v n (zaN rs)) (hm:n<=maxLen) (hb:∀r∈rs,Rp.Ok r):zbw w v rs:=zbw.own_ok h hm fun r hr=>RecOk.of (hb r hr)
theorem news_two (w:World) (o:Obj) (a b c:Value) (T:TypeId):∀(j:Nat) (u:Value),[a,b,c][j]?=some u->((w.alloc o).alloc (.cells #[a,b,c] T)).cell? ((⟨w.heap.size+1,0,none⟩:Addr).add j)=some u:=by
 intro j u h
 have hh:((w.alloc o).alloc (.cells #[a,b,c] T)).heap[w.heap.size+1]?=some (.cells #[a,b,c] T (0,0)):=by
  have:=heap_alloc_new (w.alloc o) (.cells #[a,b,c] T)
  simpa using this
 rw [zhs,Lib.cell_of_heap hh]
 simpa using h
theorem zkT (s:ByteArray) (k:Nat) (w:World) (hs:s.size<=140737488351232) (hk:k<s.size):
 Calls Tryz.prog 59 #[.string s,.int .i64 k] w fun e w'=>e= .returned (zgU s k)/\Below w.heap.size w w':=by
 have hk0:decide ((k:Int)<0)=false:=by simp
 have hk1:decide ((s.size:Int)<=(k:Int))=false:=by simp;omega
 have C:=zid fun W:World=>zkU s k W (by unfold maxLen;omega) (by omega);have D:=zid fun W:World=>rread_any s (k:Int) W (by omega)
 have hL:(s.data.toList.drop k).length=s.size-k:=by rw [List.length_drop];rfl
 have HL:=zid hL;clear hL
 by_cases hc:Fr.cutB (s.data.toList.drop k)=true
 · rw [hc] at C
   have HV:=zid (zaX (Fr.nx_cut hc) (by omega))
   clear hc
   go_enter Tryz.func59,Tryz.ntmps59
   go_wp2_with fail;refine (C.out _).mono ?_;rintro e w' ⟨rfl,rfl⟩;go_wp2_with fail;go_ret3;exact ⟨by rw [HV.out];rfl,Below.refl _ _⟩
 have hc:Fr.cutB (s.data.toList.drop k)=false:=by simpa using hc
 rw [hc] at C
 have e0:rdAt s (k:Int)=zeo (s.data.toList.drop k) k:=by unfold rdAt;rw [if_neg (by omega)];simp
 rw [e0] at D;clear e0
 rcases ht:Vp.take (s.data.toList.drop k) with _ | ⟨m,j⟩
 · rw [zaO k ht] at D
   have HV:=zid (zaX (Fr.nx_none hc ht) (by omega))
   clear hc ht
   go_enter Tryz.func59,Tryz.ntmps59
   go_wp2_with fail;refine (C.out _).mono ?_;rintro e w' ⟨rfl,rfl⟩;go_wp2_with fail;refine (D.out _).mono ?_;rintro e w1 ⟨rfl,b1⟩;go_wp2_with fail;go_ret3;exact ⟨by rw [HV.out];rfl,b1⟩
 rw [zbR k ht] at D;obtain ⟨hj0,hj9,hjl,hm63⟩:=Vp.take_some ht;rw [HL.out] at hjl;obtain ⟨q,hq⟩:∃q,k+j=q:=⟨_,rfl⟩
 have hq1:k<=q:=by omega
 have hq2:q<=s.size:=by omega
 rw [show (k:Int)+(j:Int)=(q:Int) from by omega] at D;have HQ:=zid hq;have HT:=zid ht;have HJ:=zid (show j=q-k by omega);clear hq hc ht
 by_cases hm:Fr.May m
 · have hm1:1<=(m:Int):=by have:=hm.1;omega
   have hm2:(m:Int)<=65536:=by have:=hm.2;omega
   have d1:decide ((m:Int)<1)=false:=by simp;omega
   have d2:decide (65536<(m:Int))=false:=by simp;omega
   have HM:=zid hm;clear hm
   by_cases hl:(s.size:Int)-(q:Int)<4+(m:Int)
   · have HV:=zid (zaX (Fr.nx_short HT.out HM.out (by rw [HL.out];have:=HQ.out;omega)) (by omega))
     clear hjl hj0 hj9
     go_enter Tryz.func59,Tryz.ntmps59
     go_wp2_with fail;refine (C.out _).mono ?_;rintro e w' ⟨rfl,rfl⟩;go_wp2_with fail;refine (D.out _).mono ?_;rintro e w1 ⟨rfl,b1⟩;go_wp2_with fail;go_ret3;exact ⟨by rw [HV.out];rfl,b1⟩
   · have hl':q+4+m<=s.size:=by omega
     have HNL:Hid (¬(s.data.toList.drop k).length<j+4+m):=zid (by rw [HL.out];have:=HQ.out;omega)
     have hl2:4+(m:Int)<=(s.size:Int)-(q:Int):=by omega
     clear hl hjl hj0 hj9
     go_enter Tryz.func59,Tryz.ntmps59
     go_wp2_with fail;refine (C.out _).mono ?_;rintro e w' ⟨rfl,rfl⟩;go_wp2_with fail;refine (D.out _).mono ?_;rintro e w1 ⟨rfl,b1⟩;go_wp2_with fail;obtain ⟨B,hB⟩:∃B,s.extract (q+4) (q+4+m)=B:=⟨_,rfl⟩
     have hBs:B.size=m:=by rw [<-hB,ByteArray.size_extract];omega
     rw [hB];have HB:=zid hB;have F:=zid fun W:World=>zem B W (by rw [hBs];exact HM.out);clear hB hBs;have hFl:=Fr.fr_len B.data.toList;obtain ⟨f,hf⟩:∃f,Fr.fr B.data.toList=f:=⟨_,rfl⟩;rw [hf] at F;have HF:=zid hf;clear hf hFl;refine (F.out _).mono ?_;rintro e w2 ⟨rfl,b2⟩
     have e2:B.data.toList=((s.data.toList.drop k).drop (j+4)).take m:=by
      rw [<-HB.out,zb9,List.drop_drop,show k+(j+4)=q+4 from by have:=HQ.out;omega,show q+4+m-(q+4)=m from by omega]
     have e3:(s.extract k (q+4+m)).data.toList=(s.data.toList.drop k).take (j+4+m):=by
      rw [zb9,show q+4+m-k=j+4+m from by have:=HQ.out;omega]
     have hsum:=Fr.sum_iff HT.out HNL.out;rw [<-e2,HF.out, <-e3] at hsum
     by_cases heq:f=(s.extract k (q+4+m)).data.toList
     · have HV:=zbY (Fr.nx_ok HT.out HM.out HNL.out (by rw [<-e2];exact hsum.2 heq))
       rw [<-e2,show k+(j+4+m)=q+4+m from by have:=HQ.out;omega] at HV
       have HV:=zid HV
       have hd:(!f==(s.extract k (q+4+m)).toList)=false:=by rw [Lib.toList_data,heq];simp
       clear hsum e2 e3 heq;go_wp2_with fail;go_ret3;refine ⟨?_,zaf b1 b2⟩;rw [HV.out]
       rfl
     · have HV:=zid (zaX (Fr.nx_sum HT.out HM.out HNL.out (by rw [<-e2];exact fun hh=>heq (hsum.1 hh))) (by omega))
       have hd:(!f==(s.extract k (q+4+m)).toList)=true:=by rw [Lib.toList_data];simpa using heq
       clear hsum e2 e3 heq;go_wp2_with fail;go_ret3;refine ⟨?_,zaf b1 b2⟩;rw [HV.out]
       rfl
 · have HV:=zid (zaX (Fr.nx_form HT.out hm) (by omega))
   have hm':m<1\/65536<m:=by unfold Fr.May at hm;omega
   clear hm hjl hj0 hj9
   rcases hm' with h1 | h1
   · have h2:(m:Int)<1:=by omega
     clear h1
     go_enter Tryz.func59,Tryz.ntmps59
     go_wp2_with fail;refine (C.out _).mono ?_;rintro e w' ⟨rfl,rfl⟩;go_wp2_with fail;refine (D.out _).mono ?_;rintro e w1 ⟨rfl,b1⟩;go_wp2_with fail;go_ret3;exact ⟨by rw [HV.out];rfl,b1⟩
   · have h2:(65536:Int)<(m:Int):=by omega
     have h3:decide ((m:Int)<1)=false:=by simp;omega
     clear h1
     go_enter Tryz.func59,Tryz.ntmps59
     go_wp2_with fail;refine (C.out _).mono ?_;rintro e w' ⟨rfl,rfl⟩;go_wp2_with fail;refine (D.out _).mono ?_;rintro e w1 ⟨rfl,b1⟩;go_wp2_with fail;go_ret3;exact ⟨by rw [HV.out];rfl,b1⟩
theorem zdc (s:ByteArray) (i:Int) (w:World) (hs:s.size<=140737488351232):
 Calls Tryz.prog 59 #[.string s,.int .i64 i] w fun e w'=>e= .returned (nxAt s i)/\Below w.heap.size w w':=by
 by_cases h:i<0\/(s.size:Int)<=i
 · rw [ziV h]
   exact (zjI s i w h).mono fun _ _ ⟨he,hw⟩=>⟨he,by rw [<-hw];exact Below.refl _ _⟩
 · obtain ⟨k,rfl⟩:∃k:Nat,i=(k:Int):=⟨i.toNat,by omega⟩
   rw [zcC]
   exact zkT s k w hs (by omega)
end
end Go.Proofs.YtooipogbmfkeeaaGreat

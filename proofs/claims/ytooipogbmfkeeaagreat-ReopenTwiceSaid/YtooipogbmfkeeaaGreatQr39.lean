/-
  Parts of what the laws of this seat stand on:MrMan.
-/
import Derived.Test.YtooipogbmfkeeaaGreatQr1
import Derived.Test.YtooipogbmfkeeaaGreatQr38
set_option maxRecDepth 100000
set_option maxHeartbeats 6400000
namespace Go.Proofs.YtooipogbmfkeeaaGreat
namespace Mfs
open Go.RowKit Qm
theorem zdE {r n c:Nat} {a:Option Addr} {L:List Int} {W W':World} (h:IsL IL W (.slice a n c) L) (hn:∀q,(Value.slice a n c).ownBlock=some q->q≠r) (g:W.grownBy W' (some r)):IsL IL W' (.slice a n c) L:=by
 obtain ⟨a',cap,e,h1,h2,h3⟩:=h
 injection e with e1 e2 e3
 subst e1 e2 e3;refine ⟨_,_,rfl,h1,h2,?_⟩
 rcases h3 with h3 | ⟨b,off,rfl,h4⟩
 · exact .inl h3
 · exact .inr ⟨b,off,rfl,fun j u hj=>g.cell (h4 j u hj) (fun e=>by injection e with e;exact hn b rfl e)⟩
structure Mw (w:World) (r a:Nat) (cs:Array Value) (s:Option Addr) (n c:Nat) (L:List Int) (l:List UInt8) (b:Bool) (W:World):Prop where
 rd:RD r l b W
 res:W.heap[a]?=some (.cells #[.int .i64 0,.slice none 0 0,.int .i64 0,.int .u32 0] 65 (0,0))
 box:W.heap[a+1]?=some (.cells cs 65 (0,0))
 isl:IsL IL W (.slice s n c) L
 own:∀q,(Value.slice s n c).ownBlock=some q->a+2<=q
 gr:w.grownBy W (some r)
variable {w:World} {r a n c:Nat} {cs:Array Value} {s:Option Addr} {L:List Int} {l:List UInt8} {b:Bool} {W:World}
theorem Mw.start (w:World) {r:Nat} {l:List UInt8} {b:Bool} (h:RD r l b w) (cs:Array Value) (hcs:cs= #[.int .i64 0,.slice none 0 0,.int .i64 0,.int .u32 0]):Mw w r w.heap.size cs none 0 0 [] l b ((w.alloc (.cells cs 65)).alloc (.cells cs 65)):=by
 subst hcs;have k1:=(Below.refl w.heap.size w).alloc (Nat.le_refl _) (.cells #[.int .i64 0,.slice none 0 0,.int .i64 0,.int .u32 0] 65);have k2:=k1.alloc (by simp) (.cells #[.int .i64 0,.slice none 0 0,.int .i64 0,.int .u32 0] 65);have g2:=heap_alloc_new (w.alloc (.cells #[.int .i64 0,.slice none 0 0,.int .i64 0,.int .u32 0] 65)) (.cells #[.int .i64 0,.slice none 0 0,.int .i64 0,.int .u32 0] 65);rw [show (w.alloc (.cells #[.int .i64 0,.slice none 0 0,.int .i64 0,.int .u32 0] 65)).heap.size=w.heap.size+1 by simp] at g2;exact ⟨h.keep k2,(Below.heap_alloc _ _ _ (by simp)).trans (heap_alloc_new w _),g2,IsL.nil _ _ _,fun q hq=>by simp [Value.ownBlock] at hq,zeB r k2⟩
theorem Mw.call (h:Mw w r a cs s n c L l b W) (hr:r<a) {l':List UInt8} {b':Bool} {W':World} (g:W.grownBy W' (some r)) (hrd:RD r l' b' W'):Mw w r a cs s n c L l' b' W':=
 ⟨hrd,(g.block a (Array.getElem?_eq_some_iff.1 h.res).1 (fun e=>by injection e with e;omega)).trans h.res,(g.block (a+1) (Array.getElem?_eq_some_iff.1 h.box).1 (fun e=>by injection e with e;omega)).trans h.box,zdE h.isl (fun q hq=>by have:=h.own q hq;omega) g,h.own,zaE h.gr g⟩
theorem Mw.put (h:Mw w r a cs s n c L l b W) (hr:r<a) (hw:a=w.heap.size) (j:Nat) (u:Value):Mw w r a (cs.setIfInBounds j u) s n c L l b (W.setCell ⟨a+1,j,none⟩ u):=
 ⟨(Below.heap_setCell _ _ _ _ (by show r≠a+1;omega)).trans h.rd,(Below.heap_setCell _ _ _ _ (by show a≠a+1;omega)).trans h.res,heap_setCell_same W (a+1) j _ _ _ h.box,zdE h.isl (fun q hq=>by have:=h.own q hq;omega) (zaP W (a+1) j u),h.own,
  ⟨h.gr.os,h.gr.tape,h.gr.output,by have:=h.gr.size;simp only [World.setCell,Array.size_modify];exact this,fun q hq hn=>(Below.heap_setCell _ _ _ _ (by show q≠a+1;omega)).trans (h.gr.block q hq hn)⟩⟩
theorem Mw.lt (h:Mw w r a cs s n c L l b W):a+1<W.heap.size:=(Array.getElem?_eq_some_iff.1 h.box).1
theorem Mw.sl (h:Mw w r a cs s n c L l b W) {s':Option Addr} {n' c':Nat} {L':List Int} {l':List UInt8} {b':Bool} {W':World} (h2:Mw w r a cs s n c L l' b' W') (hi:IsL IL W' (.slice s' n' c') L') (ho:∀q,(Value.slice s' n' c').ownBlock=some q->W.heap.size<=q):Mw w r a cs s' n' c' L' l' b' W':=
 ⟨h2.rd,h2.res,h2.box,hi,fun q hq=>by have:=ho q hq;have:=h.lt;omega,h2.gr⟩
theorem Mw.cells {x y z u:Value} (h:Mw w r a #[x,y,z,u] s n c L l b W):W.cell? ⟨a+1,0,none⟩=some x/\W.cell? ⟨a+1,1,none⟩=some y/\W.cell? ⟨a+1,2,none⟩=some z/\W.cell? ⟨a+1,3,none⟩=some u:=cells4 h.box
theorem Mw.froz (h:Mw w r a cs s n c L l b W):W.frozen? ⟨a+1,0,none⟩=false/\W.frozen? ⟨a+1,1,none⟩=false/\W.frozen? ⟨a+1,2,none⟩=false/\W.frozen? ⟨a+1,3,none⟩=false:=zbm h.box
theorem Mw.fin (h:Mw w r a cs s n c L l b W) (hr:r<a) (hw:a=w.heap.size) (x y z u:Value):
 IsL IL ((((W.setCell ⟨a,0,none⟩ x).setCell ⟨a,1,none⟩ y).setCell ⟨a,2,none⟩ z).setCell ⟨a,3,none⟩ u) (.slice s n c) L/\(∀q,(Value.slice s n c).ownBlock=some q->w.heap.size<=q)/\RD r l b ((((W.setCell ⟨a,0,none⟩ x).setCell ⟨a,1,none⟩ y).setCell ⟨a,2,none⟩ z).setCell ⟨a,3,none⟩ u)/\w.grownBy ((((W.setCell ⟨a,0,none⟩ x).setCell ⟨a,1,none⟩ y).setCell ⟨a,2,none⟩ z).setCell ⟨a,3,none⟩ u) (some r):=by
 have hq:∀k,k≠a->((((W.setCell ⟨a,0,none⟩ x).setCell ⟨a,1,none⟩ y).setCell ⟨a,2,none⟩ z).setCell ⟨a,3,none⟩ u).heap[k]?=W.heap[k]?:=fun k hk=>by
  rw [Below.heap_setCell _ _ _ _ hk,Below.heap_setCell _ _ _ _ hk,Below.heap_setCell _ _ _ _ hk,Below.heap_setCell _ _ _ _ hk]
 have hg:W.grownBy ((((W.setCell ⟨a,0,none⟩ x).setCell ⟨a,1,none⟩ y).setCell ⟨a,2,none⟩ z).setCell ⟨a,3,none⟩ u) (some a):=
  zaE (zaE (zaE (zaP W a 0 x) (zaP _ a 1 y)) (zaP _ a 2 z)) (zaP _ a 3 u)
 refine ⟨zdE h.isl (fun q hq=>by have:=h.own q hq;omega) hg,fun q hq=>by have:=h.own q hq;omega,(hq r (by omega)).trans h.rd,⟨hg.os.trans h.gr.os,hg.tape.trans h.gr.tape,hg.output.trans h.gr.output,Nat.le_trans h.gr.size hg.size,fun k hk hn=>(hq k (by omega)).trans (h.gr.block k hk hn)⟩⟩
def MrOut (r:Nat) (m:Mn) (l:List UInt8) (b:Bool) (w:World) (e:Ending) (w':World):Prop:=∃a n c,e= .returned (mnVal a n c m)/\IsL IL w' (.slice a n c) m.l/\(∀q,(Value.slice a n c).ownBlock=some q->w.heap.size<=q)/\RD r l b w'/\w.grownBy w' (some r)
theorem zgZ (r:Nat) (l:List UInt8) (b:Bool) (w:World) (h:RD r l b w) (hl:l.length<=140737488351232):
 Calls Tryz.prog 90 #[.pointer (some ⟨r,0,none⟩)] w (MrOut r (manR l b).1 (manR l b).2.1 (manR l b).2.2 w):=by
 have hr:=h.lt;have M0:=Mw.start w h _ rfl;have N1:=zdf r l b _ M0.rd hl;unfold manR;dsimp only;have hl1:=Nat.le_trans (ziX l b) hl;obtain ⟨x,hx⟩:∃x,(numR l b).1=x:=⟨_,rfl⟩;obtain ⟨l1,hl1e⟩:∃l1,(numR l b).2.1=l1:=⟨_,rfl⟩;obtain ⟨b1,hb1⟩:∃b1,(numR l b).2.2=b1:=⟨_,rfl⟩;rw [hx,hl1e,hb1] at N1;rw [hl1e] at hl1;rw [hx,hl1e,hb1];have hl2:=Nat.le_trans (segsR_in l1 b1).2 hl1;have S2:=zid fun (W:World) (hW:RD r l1 b1 W)=>segs_any r l1 b1 W hW hl1;obtain ⟨L,hL⟩:∃L,(zbD l1 b1).1=L:=⟨_,rfl⟩;obtain ⟨l2,hl2e⟩:∃l2,(zbD l1 b1).2.1=l2:=⟨_,rfl⟩;obtain ⟨b2,hb2⟩:∃b2,(zbD l1 b1).2.2=b2:=⟨_,rfl⟩;rw [hL,hl2e,hb2] at S2;rw [hl2e] at hl2;rw [hL,hl2e,hb2];have hl3:=Nat.le_trans (ziX l2 b2) hl2;have N3:=zid fun (W:World) (hW:RD r l2 b2 W)=>zdf r l2 b2 W hW hl2;obtain ⟨z,hz⟩:∃z,(numR l2 b2).1=z:=⟨_,rfl⟩;obtain ⟨l3,hl3e⟩:∃l3,(numR l2 b2).2.1=l3:=⟨_,rfl⟩;obtain ⟨b3,hb3⟩:∃b3,(numR l2 b2).2.2=b3:=⟨_,rfl⟩;rw [hz,hl3e,hb3] at N3;rw [hl3e] at hl3;rw [hz,hl3e,hb3];have S4:=zid fun (W:World) (hW:RD r l3 b3 W)=>zjw r l3 b3 W hW hl3;obtain ⟨c,hc⟩:∃c,(sumR l3 b3).1=c:=⟨_,rfl⟩;obtain ⟨l4,hl4e⟩:∃l4,(sumR l3 b3).2.1=l4:=⟨_,rfl⟩;obtain ⟨b4,hb4⟩:∃b4,(sumR l3 b3).2.2=b4:=⟨_,rfl⟩;rw [hc,hl4e,hb4] at S4;rw [hc,hl4e,hb4];clear hx hl1e hb1 hL hl2e hb2 hz hl3e hb3 hc hl4e hb4 hl hl1 hl2 hl3 h;replace M0:=zid M0;replace N1:=zid N1;unfold MrOut mnVal;dsimp only
 go_enter Tryz.func90,Tryz.ntmps90
 go_wp2_with fail;refine N1.out.mono ?_;rintro e w1 ⟨rfl,h1,g1⟩;have M1:=zid (M0.out.call hr g1 h1);clear h1 g1;obtain ⟨c0,c1,c2,c3⟩:=M1.out.cells;obtain ⟨f0,f1,f2,f3⟩:=M1.out.froz;have P1:=zid (show Mw w r w.heap.size #[.int .i64 x,.slice none 0 0,.int .i64 0,.int .u32 0] none 0 0 [] l1 b1 (w1.setCell ⟨w.heap.size+1,0,none⟩ (.int .i64 x)) from M1.out.put hr rfl 0 (.int .i64 x));go_wp2_with fail;generalize w1.setCell _ _=W1 at P1 ⊢;refine (S2.out W1 P1.out.rd).mono ?_;rintro e w2 ⟨sa,sn,sc,rfl,hi2,ho2,h2,g2⟩;have M2:=zid (P1.out.sl (P1.out.call hr g2 h2) hi2 ho2);clear h2 g2 hi2 ho2 c0 c1 c2 c3 f0 f1 f2 f3;obtain ⟨c0,c1,c2,c3⟩:=M2.out.cells;obtain ⟨f0,f1,f2,f3⟩:=M2.out.froz;have P2:=zid (show Mw w r w.heap.size #[.int .i64 x,.slice sa sn sc,.int .i64 0,.int .u32 0] sa sn sc L l2 b2 (w2.setCell ⟨w.heap.size+1,1,none⟩ (.slice sa sn sc)) from M2.out.put hr rfl 1 (.slice sa sn sc));go_wp2_with fail;generalize w2.setCell _ _=W2 at P2 ⊢;refine (N3.out W2 P2.out.rd).mono ?_;rintro e w3 ⟨rfl,h3,g3⟩;have M3:=zid (P2.out.call hr g3 h3);clear h3 g3 c0 c1 c2 c3 f0 f1 f2 f3;obtain ⟨c0,c1,c2,c3⟩:=M3.out.cells;obtain ⟨f0,f1,f2,f3⟩:=M3.out.froz;have P3:=zid (show Mw w r w.heap.size #[.int .i64 x,.slice sa sn sc,.int .i64 z,.int .u32 0] sa sn sc L l3 b3 (w3.setCell ⟨w.heap.size+1,2,none⟩ (.int .i64 z)) from M3.out.put hr rfl 2 (.int .i64 z));go_wp2_with fail;generalize w3.setCell _ _=W3 at P3 ⊢;refine (S4.out W3 P3.out.rd).mono ?_;rintro e w4 ⟨rfl,h4,g4⟩;have M4:=zid (P3.out.call hr g4 h4);clear h4 g4 c0 c1 c2 c3 f0 f1 f2 f3;obtain ⟨c0,c1,c2,c3⟩:=M4.out.cells;obtain ⟨f0,f1,f2,f3⟩:=M4.out.froz;have P4:=zid (show Mw w r w.heap.size #[.int .i64 x,.slice sa sn sc,.int .i64 z,.int .u32 c] sa sn sc L l4 b4 (w4.setCell ⟨w.heap.size+1,3,none⟩ (.int .u32 c)) from M4.out.put hr rfl 3 (.int .u32 c));obtain ⟨d0,d1,d2,d3⟩:=cells4 M4.out.res;obtain ⟨g0,g1,g2,g3⟩:=zbm M4.out.res;go_wp2_with fail;refine bodyPost_ret (v:= .agg #[.int .i64 x,.slice sa sn sc,.int .i64 z,.int .u32 c]) (by simp [results,Tryz.results90,go_sem,d0,d1,d2,d3]) rfl ?_;obtain ⟨i1,i2,i3,i4⟩:=P4.out.fin hr rfl (.int .i64 x) (.slice sa sn sc) (.int .i64 z) (.int .u32 c);exact ⟨sa,sn,sc,rfl,i1,i2,i3,i4⟩
end Mfs
end Go.Proofs.YtooipogbmfkeeaaGreat

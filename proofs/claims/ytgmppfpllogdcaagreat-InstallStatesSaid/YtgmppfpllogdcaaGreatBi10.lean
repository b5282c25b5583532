/-
  Parts of what the laws of this seat stand on:DiskChg,DiskFacts,DiskUsed.
-/
import Derived.Deep.DeepCutAuto
import Derived.Deep.RegionHeld3
import Derived.RegionTactic
import Derived.Test.YtgmppfpllogdcaaGreatBi1
import Derived.Test.YtgmppfpllogdcaaGreatBi9
set_option maxRecDepth 100000
set_option maxHeartbeats 6400000
namespace Go.Proofs.YtgmppfpllogdcaaGreat
namespace Dsk
open Go.RowKit Dp
theorem made_func (fn:Fn) (first cap:Array Value) (w:World):(Instr.makeFunc fn first cap).run Tryz.prog w= .ok (.func fn first cap) w:=rfl
theorem hkeep {W W':World} {k:Nat} {o:Obj} (h:W.heap[k]?=some o) (b:Below W.heap.size W W'):W'.heap[k]?=some o:=by
 rw [b.block k (Array.getElem?_eq_some_iff.1 h).1];exact h
theorem halloc {w:World} {o:Obj} {k:Nat} {x:Obj} (h:w.heap[k]?=some x):(w.alloc o).heap[k]?=some x:=by
 rw [Lib.alloc_old w o k (Array.getElem?_eq_some_iff.1 h).1];exact h
theorem zaE {W:World} {k:Nat} {T:TypeId} {x:Value} (h:W.heap[k]?=some (.cells #[x] T (0,0))):W.cell? ⟨k,0,none⟩=some x/\W.frozen? ⟨k,0,none⟩=false:=⟨by rw [Lib.cell_of_heap h];rfl,Lib.frozen_of_heap h 0⟩
theorem cells3 {W:World} {k:Nat} {T:TypeId} {x y z:Value} (h:W.heap[k]?=some (.cells #[x,y,z] T (0,0))):W.cell? ⟨k,0,none⟩=some x/\W.cell? ⟨k,1,none⟩=some y/\W.cell? ⟨k,2,none⟩=some z:=
 ⟨by rw [Lib.cell_of_heap h];rfl,by rw [Lib.cell_of_heap h];rfl,by rw [Lib.cell_of_heap h];rfl⟩
theorem zb7 {W:World} {k:Nat} {T:TypeId} {cs:Array Value} (h:W.heap[k]?=some (.cells cs T (0,0))):W.frozen? ⟨k,0,none⟩=false/\W.frozen? ⟨k,1,none⟩=false/\W.frozen? ⟨k,2,none⟩=false:=
 ⟨Lib.frozen_of_heap h 0,Lib.frozen_of_heap h 1,Lib.frozen_of_heap h 2⟩
theorem zaa {W:World} {k:Nat} {T:TypeId} {x y z u v:Value} (h:W.heap[k]?=some (.cells #[x,y,z,u,v] T (0,0))):
 W.cell? ⟨k,0,none⟩=some x/\W.cell? ⟨k,1,none⟩=some y/\W.cell? ⟨k,2,none⟩=some z/\W.cell? ⟨k,3,none⟩=some u/\W.cell? ⟨k,4,none⟩=some v:=
 ⟨by rw [Lib.cell_of_heap h];rfl,by rw [Lib.cell_of_heap h];rfl,by rw [Lib.cell_of_heap h];rfl,by rw [Lib.cell_of_heap h];rfl,by rw [Lib.cell_of_heap h];rfl⟩
theorem zad {W:World} {k:Nat} {T:TypeId} {cs:Array Value} (h:W.heap[k]?=some (.cells cs T (0,0))):
 W.frozen? ⟨k,0,none⟩=false/\W.frozen? ⟨k,1,none⟩=false/\W.frozen? ⟨k,2,none⟩=false/\W.frozen? ⟨k,3,none⟩=false/\W.frozen? ⟨k,4,none⟩=false:=
 ⟨Lib.frozen_of_heap h 0,Lib.frozen_of_heap h 1,Lib.frozen_of_heap h 2,Lib.frozen_of_heap h 3,Lib.frozen_of_heap h 4⟩
theorem zcQ {α:Type} {Y:Lay α} {W:World} {base:Nat} {v:Value} {l:List α} (h:OwnL Y W base v l) {k o:Nat} (hk:k<base) (x:Value):OwnL Y (W.setCell ⟨k,o,none⟩ x) base v l:=by
 refine ⟨h.1,?_⟩
 rcases h.2 with h0 | ⟨g,cap,cur,h1,hb,hg,h2⟩
 · exact .inl h0
 · exact .inr ⟨g,cap,cur,h1,hb,by rw [heap_setCell_other _ _ _ _ (by show g≠k;omega)];exact hg,h2⟩
theorem zay (w:World) (A B:Array Value) (T U:TypeId):((w.alloc (.cells A T)).alloc (.cells B U)).heap[w.heap.size]?=some (.cells A T (0,0))/\((w.alloc (.cells A T)).alloc (.cells B U)).heap[w.heap.size+1]?=some (.cells B U (0,0))/\
 Below w.heap.size w ((w.alloc (.cells A T)).alloc (.cells B U))/\((w.alloc (.cells A T)).alloc (.cells B U)).heap.size=w.heap.size+2:=by
 refine ⟨halloc (heap_alloc_new w _),?_,((Below.refl _ _).alloc (Nat.le_refl _) _).alloc (by simp) _,by simp⟩;have:=heap_alloc_new (w.alloc (.cells A T)) (.cells B U)
 rwa [show (w.alloc (.cells A T)).heap.size=w.heap.size+1 from by simp] at this
theorem zfh (w:World) (A B C:Array Value) (T U V:TypeId):(((w.alloc (.cells A T)).alloc (.cells B U)).alloc (.cells C V)).heap[w.heap.size]?=some (.cells A T (0,0))/\(((w.alloc (.cells A T)).alloc (.cells B U)).alloc (.cells C V)).heap[w.heap.size+1]?=some (.cells B U (0,0))/\
 (((w.alloc (.cells A T)).alloc (.cells B U)).alloc (.cells C V)).heap[w.heap.size+1+1]?=some (.cells C V (0,0))/\
 Below w.heap.size w (((w.alloc (.cells A T)).alloc (.cells B U)).alloc (.cells C V))/\(((w.alloc (.cells A T)).alloc (.cells B U)).alloc (.cells C V)).heap.size=w.heap.size+3:=by
 obtain ⟨h0,h1,hb,hs⟩:=zay w A B T U;refine ⟨halloc h0,halloc h1,?_,hb.alloc hb.size _,by simp⟩;have:=heap_alloc_new ((w.alloc (.cells A T)).alloc (.cells B U)) (.cells C V)
 rwa [hs] at this
theorem boxes4 (w:World) (A B C D:Array Value) (T U V X:TypeId):((((w.alloc (.cells A T)).alloc (.cells B U)).alloc (.cells C V)).alloc (.cells D X)).heap[w.heap.size]?=some (.cells A T (0,0))/\((((w.alloc (.cells A T)).alloc (.cells B U)).alloc (.cells C V)).alloc (.cells D X)).heap[w.heap.size+1]?=some (.cells B U (0,0))/\
 ((((w.alloc (.cells A T)).alloc (.cells B U)).alloc (.cells C V)).alloc (.cells D X)).heap[w.heap.size+1+1]?=some (.cells C V (0,0))/\((((w.alloc (.cells A T)).alloc (.cells B U)).alloc (.cells C V)).alloc (.cells D X)).heap[w.heap.size+1+1+1]?=some (.cells D X (0,0))/\
 Below w.heap.size w ((((w.alloc (.cells A T)).alloc (.cells B U)).alloc (.cells C V)).alloc (.cells D X))/\((((w.alloc (.cells A T)).alloc (.cells B U)).alloc (.cells C V)).alloc (.cells D X)).heap.size=w.heap.size+4:=by
 obtain ⟨h0,h1,h2,hb,hs⟩:=zfh w A B C T U V;refine ⟨halloc h0,halloc h1,halloc h2,?_,hb.alloc hb.size _,by simp⟩;have:=heap_alloc_new (((w.alloc (.cells A T)).alloc (.cells B U)).alloc (.cells C V)) (.cells D X)
 rwa [hs] at this
def set3 (W:World) (k:Nat) (x y z:Value):World:=((W.setCell ⟨k,0,none⟩ x).setCell ⟨k,1,none⟩ y).setCell ⟨k,2,none⟩ z
theorem zdu {W:World} {k:Nat} {T:TypeId} {a b c:Value} (h:W.heap[k]?=some (.cells #[a,b,c] T (0,0))) (x y z:Value):(set3 W k x y z).heap[k]?=some (.cells #[x,y,z] T (0,0)):=
 heap_setCell_same _ _ 2 _ _ z (heap_setCell_same _ _ 1 _ _ y (heap_setCell_same _ _ 0 _ _ x h))
theorem bel_st3 {base k:Nat} {w W:World} (h:Below base w W) (hk:base<=k) (x y z:Value):Below base w (set3 W k x y z):=
 ((h.setCell (p:=⟨k,0,none⟩) hk x).setCell (p:=⟨k,1,none⟩) hk y).setCell (p:=⟨k,2,none⟩) hk z
def set5 (W:World) (k:Nat) (x y z u v:Value):World:=((((W.setCell ⟨k,0,none⟩ x).setCell ⟨k,1,none⟩ y).setCell ⟨k,2,none⟩ z).setCell ⟨k,3,none⟩ u).setCell ⟨k,4,none⟩ v
theorem zai {base k:Nat} {w W:World} (h:Below base w W) (hk:base<=k) (x y z u v:Value):Below base w (set5 W k x y z u v):=
 ((((h.setCell (p:=⟨k,0,none⟩) hk x).setCell (p:=⟨k,1,none⟩) hk y).setCell (p:=⟨k,2,none⟩) hk z).setCell (p:=⟨k,3,none⟩) hk u).setCell (p:=⟨k,4,none⟩) hk v
theorem zbD {α:Type} {Y:Lay α} {W:World} {base:Nat} {v:Value} {l:List α} (h:OwnL Y W base v l) {k:Nat} (hk:k<base) (x y z u t:Value):OwnL Y (set5 W k x y z u t) base v l:=
 zcQ (zcQ (zcQ (zcQ (zcQ h hk _) hk _) hk _) hk _) hk _
theorem zdo {w w0 w1:World} {fv v:Value} {l0:List Fl} {R:Dk} (h:DkRes w0 fv l0 R v w1) (hb:Below w.heap.size w w0) {k:Nat} (h1:w.heap.size<=k) (h2:k<w0.heap.size) (x y z u t:Value):DkRes w fv l0 R v (set5 w1 k x y z u t):=by
 refine ⟨?_,h.b,h.f,h.n,zai (hb.trans (h.w.mono hb.size)) h1 _ _ _ _ _⟩
 rcases h.k with k0 | k0
 · exact .inl k0
 · exact .inr (zbd (zbD k0 h2 _ _ _ _ _) hb.size)
theorem zcp (N:Nat) (caps:Array Value) (fv:Value) (D:Dk) (l:List Fl) (own:Int) (w:World) (hv:IsL FL w fv D.f) (hD:DkB D) (h0:0<=D.l) (hl:D.f.length<=1000000000)
 (hr:own=0->l.length<=1000000001/\∀f∈l,FlB f)
 (EN:∀args w,(callFunc N args).run Tryz.prog w= .ok (.enter N args) w)
 (C:∀base v W,OwnL FL W base v D.f->w.heap.size<=base->base<=W.heap.size->Below w.heap.size w W->Calls Tryz.prog N (#[v]++caps) W (zaF W base l own)):
 Calls Tryz.prog 115 #[.agg #[fv,.int .i64 D.c,.bool D.a,.int .i64 D.l,.bool D.x],.func (.func N) #[] caps] w (zhd w fv D.f (change D l own)):=by
 obtain ⟨fa,fn,fc,rfl⟩:∃a n c,fv= .slice a n c:=by obtain ⟨a,c,h,_⟩:=hv;exact ⟨a,_,c,h⟩
 have HC:=zid C;have HE:=zid EN;have K:=zid (fun (W:World) (h:IsL FL W (.slice fa fn fc) D.f)=>zlH (.slice fa fn fc) D.f W h (by omega));have HV:=zid hv;have HK:=zid (show (∀f∈D.f,FlB f)/\D.f.length<=1000000001 from ⟨hv.ok,by omega⟩);have HR:=zid hr;obtain ⟨⟨hc1,hc2⟩,hl1,hl2⟩:=hD;clear C hv hr hl EN;obtain ⟨f,c,a,d,x⟩:=D;dsimp only at*
 have key:Hid (x=true/\change ⟨f,c,a,d,x⟩ l own=(⟨f,c,a,d,true⟩,10))\/Hid (x=false/\own≠0/\change ⟨f,c,a,d,x⟩ l own=(⟨f,c,a,d,false⟩,own))\/Hid (x=false/\own=0/\a=true/\d=0/\change ⟨f,c,a,d,x⟩ l own=(⟨f,c,true,0,true⟩,10))\/
  Hid (x=false/\own=0/\a=true/\d≠0/\change ⟨f,c,a,d,x⟩ l own=(⟨l,c,true,d-1,false⟩,0))\/Hid (x=false/\own=0/\a=false/\change ⟨f,c,a,d,x⟩ l own=(⟨l,c,false,d,false⟩,0)):=by
  rcases zaQ ⟨f,c,a,d,x⟩ l own with ⟨e,h1⟩ | ⟨e,h1,h2⟩ | ⟨e,h1,h2,h3,h4⟩ | ⟨e,h1,h2,h3,h4⟩ | ⟨e,h1,h2,h3⟩
  · exact .inl ⟨h1,by rw [e];simp_all⟩
  · exact .inr (.inl ⟨h2,h1,by rw [e];simp_all⟩)
  · exact .inr (.inr (.inl ⟨h2,h1,h3,h4,by rw [e];simp_all⟩))
  · exact .inr (.inr (.inr (.inl ⟨h2,h1,h3,h4,by rw [e];simp_all⟩)))
  · exact .inr (.inr (.inr (.inr ⟨h2,h1,h3,by rw [e];simp_all⟩)))
 generalize change ⟨f,c,a,d,x⟩ l own=R at*
 rcases key with key | key
 · obtain ⟨rfl,e⟩:=key.out
   rw [e]
   clear key e HC K
   go_enter Tryz.func115,Tryz.ntmps115
   go_wp2_with fail;refine bodyPost_ret (v:= .tuple #[.agg #[.slice fa fn fc,.int .i64 c,.bool a,.int .i64 d,.bool true],.int .i64 10]) (by simp [results,Tryz.results115,go_sem]) rfl ?_;have b:=((Below.refl w.heap.size w).alloc (Nat.le_refl _) (.cells #[.slice fa fn fc,.int .i64 c,.bool a,.int .i64 d,.bool true] 27)).alloc (by simp) (.cells #[.slice fa fn fc,.int .i64 c,.bool a,.int .i64 d,.bool true] 27);exact ⟨_,rfl,.inl ⟨rfl,rfl⟩,⟨⟨hc1,hc2⟩,hl1,hl2⟩,HK.out.1,HK.out.2,b⟩
 · have hx:x=false:=by rcases key with k | k | k | k<;>exact k.out.1
   subst hx
   go_enter Tryz.func115,Tryz.ntmps115
   go_wp2_with fail;have B0:=zid (((Below.refl w.heap.size w).alloc (Nat.le_refl _) (.cells #[.slice fa fn fc,.int .i64 c,.bool a,.int .i64 d,.bool false] 27)).alloc (by simp) (.cells #[.slice none 0 0,.int .i64 0,.bool false,.int .i64 0,.bool false] 27));have P0:=zid (halloc (o:= .cells #[.slice none 0 0,.int .i64 0,.bool false,.int .i64 0,.bool false] 27) (heap_alloc_new w (.cells #[.slice fa fn fc,.int .i64 c,.bool a,.int .i64 d,.bool false] 27)));have Q0:=zid (heap_alloc_new (w.alloc (.cells #[.slice fa fn fc,.int .i64 c,.bool a,.int .i64 d,.bool false] 27)) (.cells #[.slice none 0 0,.int .i64 0,.bool false,.int .i64 0,.bool false] 27))
   have hs0:((w.alloc (.cells #[.slice fa fn fc,.int .i64 c,.bool a,.int .i64 d,.bool false] 27)).alloc (.cells #[.slice none 0 0,.int .i64 0,.bool false,.int .i64 0,.bool false] 27)).heap.size=w.heap.size+2:=by simp
   have hs1:(w.alloc (.cells #[.slice fa fn fc,.int .i64 c,.bool a,.int .i64 d,.bool false] 27)).heap.size=w.heap.size+1:=by simp
   rw [hs1] at Q0;generalize (w.alloc _).alloc _=w0 at B0 P0 Q0 hs0 ⊢;refine (K.out w0 (HV.out.keep B0.out)).mono ?_;rintro e w1 ⟨v1,rfl,ho1,b1⟩;have P1:=zid (hkeep P0.out b1);have Q1:=zid (hkeep Q0.out b1);have B1:=zid (B0.out.trans (b1.mono (by omega)));have hz1:=b1.size;rw [hs0] at ho1 hz1;have HO:=zid ho1;clear ho1 b1;go_wp2_with fail;rw [HE.out,Oper.upon_enter];refine (HC.out (w.heap.size+2) v1 w1 HO.out (by omega) hz1 B1.out).mono ?_;rintro e w2 ⟨ga,gn,gc,rfl,ho2,b2⟩;have P2:=zid ((b2.block w.heap.size (by omega)).trans P1.out);have Q2:=zid ((b2.block (w.heap.size+1) (by omega)).trans Q1.out);have B2:=zid (B1.out.trans (b2.mono (by omega)));have HO2:=zid ho2;obtain ⟨p0,p1,p2,p3,p4⟩:=zaa P2.out;obtain ⟨pf0,pf1,pf2,pf3,pf4⟩:=zad P2.out;obtain ⟨q0,q1,q2,q3,q4⟩:=zaa Q2.out;obtain ⟨qf0,qf1,qf2,qf3,qf4⟩:=zad Q2.out;clear ho2 b2 P0 Q0 P1 Q1 B0 B1 HO hs0 hs1 hz1 HC K
   rcases key with key | key | key | key
   · obtain ⟨_,hne,e⟩:=key.out
     have E:=zid e
     clear key e;go_wp2_with fail;refine bodyPost_ret (v:= .tuple #[.agg #[.slice fa fn fc,.int .i64 c,.bool a,.int .i64 d,.bool false],.int .i64 own]) (by simp [results,Tryz.results115,go_sem,q0,q1,q2,q3,q4]) rfl ?_;rw [E.out];have b:=zai B2.out (k:=w.heap.size+1) (by omega) (.slice fa fn fc) (.int .i64 c) (.bool a) (.int .i64 d) (.bool false);exact ⟨_,rfl,.inl ⟨rfl,rfl⟩,⟨⟨hc1,hc2⟩,hl1,hl2⟩,HK.out.1,HK.out.2,b⟩
   · obtain ⟨_,rfl,rfl,rfl,e⟩:=key.out
     have E:=zid e
     clear key e;go_wp2_with fail;refine bodyPost_ret (v:= .tuple #[.agg #[.slice fa fn fc,.int .i64 c,.bool true,.int .i64 0,.bool true],.int .i64 10]) (by simp [results,Tryz.results115,go_sem,q0,q1,q2,q3,q4]) rfl ?_;rw [E.out];have b:=zai (B2.out.setCell (p:=⟨w.heap.size,4,none⟩) (Nat.le_refl _) (.bool true)) (k:=w.heap.size+1) (by omega) (.slice fa fn fc) (.int .i64 c) (.bool true) (.int .i64 0) (.bool true);exact ⟨_,rfl,.inl ⟨rfl,rfl⟩,⟨⟨hc1,hc2⟩,hl1,hl2⟩,HK.out.1,HK.out.2,b⟩
   · obtain ⟨_,rfl,rfl,hne,e⟩:=key.out
     have HO3:=zid (HO2.out rfl)
     have HR3:=zid (HR.out rfl);clear HO2 HR;have E:=zid e;clear key e;have hd0:¬(d=0):=hne;go_wp2_with fail;refine bodyPost_ret (v:= .tuple #[.agg #[.slice ga gn gc,.int .i64 c,.bool true,.int .i64 (d-1),.bool false],.int .i64 0]) (by simp [results,Tryz.results115,go_sem,q0,q1,q2,q3,q4]) rfl ?_;rw [E.out];have b:=zai ((B2.out.setCell (p:=⟨w.heap.size,3,none⟩) (Nat.le_refl _) (.int .i64 (d-1))).setCell (p:=⟨w.heap.size,0,none⟩) (Nat.le_refl _) (.slice ga gn gc)) (k:=w.heap.size+1) (by omega) (.slice ga gn gc) (.int .i64 c) (.bool true) (.int .i64 (d-1)) (.bool false);have o:=zbD (zcQ (zcQ HO3.out (k:=w.heap.size) (o:=3) (by omega) (.int .i64 (d-1))) (k:=w.heap.size) (o:=0) (by omega) (.slice ga gn gc)) (k:=w.heap.size+1) (by omega) (.slice ga gn gc) (.int .i64 c) (.bool true) (.int .i64 (d-1)) (.bool false);exact ⟨_,rfl,.inr (zbd o (Nat.le_add_right _ _)),⟨⟨hc1,hc2⟩,by show _<=d-1;omega,by show d-1<=_;omega⟩,HR3.out.2,HR3.out.1,b⟩
   · obtain ⟨_,rfl,rfl,e⟩:=key.out
     have HO3:=zid (HO2.out rfl)
     have HR3:=zid (HR.out rfl);clear HO2 HR;have E:=zid e;clear key e;go_wp2_with fail;refine bodyPost_ret (v:= .tuple #[.agg #[.slice ga gn gc,.int .i64 c,.bool false,.int .i64 d,.bool false],.int .i64 0]) (by simp [results,Tryz.results115,go_sem,q0,q1,q2,q3,q4]) rfl ?_;rw [E.out];have b:=zai (B2.out.setCell (p:=⟨w.heap.size,0,none⟩) (Nat.le_refl _) (.slice ga gn gc)) (k:=w.heap.size+1) (by omega) (.slice ga gn gc) (.int .i64 c) (.bool false) (.int .i64 d) (.bool false);have o:=zbD (zcQ HO3.out (k:=w.heap.size) (o:=0) (by omega) (.slice ga gn gc)) (k:=w.heap.size+1) (by omega) (.slice ga gn gc) (.int .i64 c) (.bool false) (.int .i64 d) (.bool false);exact ⟨_,rfl,.inr (zbd o (Nat.le_add_right _ _)),⟨⟨hc1,hc2⟩,hl1,hl2⟩,HR3.out.2,HR3.out.1,b⟩
end Dsk
namespace Dp
theorem zcs (a b:List Fl):used (a++b)=used a+used b:=by unfold used;simp
theorem zax (f:Fl) (l:List Fl):used (f::l)=f.d.size+used l:=by unfold used;simp
theorem zi2 (l:List Fl) (n:ByteArray):used (l.filter fun g=>decide (Lt g.n n))+used (l.filter fun g=>decide (Lt n g.n))=used (without l n):=by
 induction l with
 | nil=>rfl
 | cons g l ih=>
  unfold without at ih ⊢
  rcases zgH g.n n with h | h | h
  · rw [List.filter_cons_of_pos (by simpa using h),List.filter_cons_of_neg (by simpa using h.asymm),List.filter_cons_of_pos (by simpa using h.ne),zax,zax]
    omega
  · rw [List.filter_cons_of_neg (by rw [h];simpa using Lt.irrefl n),List.filter_cons_of_neg (by rw [h];simpa using Lt.irrefl n),List.filter_cons_of_neg (by simpa using h)]
    exact ih
  · rw [List.filter_cons_of_neg (by simpa using h.asymm),List.filter_cons_of_pos (by simpa using h),List.filter_cons_of_pos (by simpa using fun e:g.n=n=>h.ne e.symm),zax,zax]
    omega
theorem zcb (l:List Fl) (f:Fl):used (withF l f)=f.d.size+used (without l f.n):=by
 unfold withF;rw [zcs,zcs,zax, <-zi2 l f.n];show used _+(f.d.size+0)+used _=_;omega
theorem zbp (l:List Fl) (n:ByteArray):used (without l n)<=used l:=by
 induction l with
 | nil=>exact Nat.le_refl _
 | cons g l ih=>
  unfold without at ih ⊢
  by_cases h:g.n=n
  · rw [List.filter_cons_of_neg (by simpa using h),zax];omega
  · rw [List.filter_cons_of_pos (by simpa using h),zax,zax];omega
theorem zbZ {l:List Fl} {n:ByteArray} {f:Fl} (h:get l n=some f):f.d.size+used (without l n)<=used l:=by
 induction l with
 | nil=>cases h
 | cons g l ih=>
  unfold get at h ih;unfold without at ih ⊢
  by_cases hg:g.n=n
  · rw [List.find?_cons_of_pos (by simpa using hg)] at h
    have e:=Option.some.inj h
    subst e;have:=zbp l n;unfold without at this;rw [List.filter_cons_of_neg (by simpa using hg),zax];omega
  · rw [List.find?_cons_of_neg (by simpa using hg)] at h
    rw [List.filter_cons_of_pos (by simpa using hg),zax,zax]
    have:=ih h;omega
theorem zgK (f:Fl) (k:Int):(left f k).d.size<=f.d.size:=by
 show (f.d.extract 0 _).size<=_;rw [ByteArray.size_extract];omega
theorem zdf:∀(l:List Fl) (k:List Int),used (zaA l k)<=used l
 | [],_=>Nat.le_refl _
 | f::l,[]=>by rw [zaA,zax,zax];have:=zgK f 0;have:=zdf l [];omega
 | f::l,k::r=>by rw [zaA,zax,zax];have:=zgK f k;have:=zdf l r;omega
theorem zbB:∀(l:List Fl) (k:List Int),(zaA l k).length=l.length
 | [],_=>rfl
 | f::l,[]=>by rw [zaA,List.length_cons,List.length_cons,zbB l []]
 | f::l,k::r=>by rw [zaA,List.length_cons,List.length_cons,zbB l r]
end Dp
namespace Dsk
open Go.RowKit Dp
theorem zfU {l:List Fl} {k:Nat} {z:Fl} (h:k<l.length):used (l.take (k+1))=used (l.take k)+(l.getD k z).d.size:=by
 rw [zbv (z:=z) h,zcs,zax]
 rfl
theorem zdM (l:List Fl) (k:Nat):used (l.take k)<=used l:=by
 have h:used (l.take k++l.drop k)=used (l.take k)+used (l.drop k):=zcs _ _;rw [List.take_append_drop] at h;omega
theorem zj5 (b off cap:Nat) (l:List Fl) (c d:Int) (a x:Bool) (w:World) (hv:IsL FL w (.slice (some ⟨b,off,none⟩) l.length cap) l) (hs:used l<=4000000000000000000):
 Calls Tryz.prog 124 #[.agg #[.slice (some ⟨b,off,none⟩) l.length cap,.int .i64 c,.bool a,.int .i64 d,.bool x]] w fun e w'=>e= .returned (.int .i64 (used l:Int))/\Below w.heap.size w w':=by
 have HC:=zid fun i (hi:i<l.length)=>at3 hv hi;have HT:=zid fun k (hk:k<l.length)=>zfU (z:=zero) hk;have HE:=zid fun k=>zdM l k;have HA:=zid (show ∀k,l.length<=k->used (l.take k)=used l from fun k hk=>by rw [List.take_of_length_le hk]);have hl:=hv.len.2;unfold maxLen at hl;clear hv;obtain ⟨u,hu⟩:∃u,used l=u:=⟨_,rfl⟩;rw [hu] at hs HE HA ⊢;have H0:=zid (show used (l.take 0)=0 from rfl);obtain ⟨len,hlen⟩:∃len,l.length=len:=⟨_,rfl⟩;rw [hlen] at hl HC HT HA ⊢;clear hlen hu
 go_enter Tryz.func124,Tryz.ntmps124
 go_wp2_with fail
 go_loopw [3,9] (fun s i wr=>∃k:Nat,k<=len/\i= .int .i64 k/\s= .int .i64 (used (l.take k):Int)/\Below w.heap.size w wr) (fun _ i _=>len-(intOf i).toNat)
 case atStart=>exact ⟨0,Nat.zero_le _,rfl,by rw [H0.out];rfl,(Below.refl _ _).alloc (Nat.le_refl _) _⟩
 case round=>
  obtain ⟨k,hk,rfl,rfl,bel⟩:=hrel
  by_cases hlt:k<len
  · obtain ⟨c0,c1,c2⟩:=HC.out k hlt
    have hbb:=block_lt_of_cell c0
    have z0:wr.cell? ⟨b,off+k*3,none⟩=some (.string (l.getD k zero).n):=by rw [bel.cell (p:=⟨b,off+k*3,none⟩) hbb];exact c0
    have z1:wr.cell? ⟨b,off+k*3+1,none⟩=some (.string (l.getD k zero).d):=by rw [bel.cell (p:=⟨b,off+k*3+1,none⟩) hbb];exact c1
    have z2:wr.cell? ⟨b,off+k*3+2,none⟩=some (.int .i64 (l.getD k zero).s):=by rw [bel.cell (p:=⟨b,off+k*3+2,none⟩) hbb];exact c2
    have ht:=HT.out k hlt;have hle:=HE.out (k+1);have B2:=zid (bel.alloc bel.size (.cells #[.string (l.getD k zero).n,.string (l.getD k zero).d,.int .i64 (l.getD k zero).s] 82));clear c0 c1 c2;obtain ⟨m,hm⟩:∃m,used (l.take k)=m:=⟨_,rfl⟩;rw [hm] at ht ⊢;have HM:=zid ht;rw [ht] at hle;clear ht hm;generalize l.getD k zero=p at*;go_wp2_with fail
    go_roundw
    case rel=>exact ⟨k+1,by omega,by go_num,by rw [HM.out];go_num,B2.out⟩
    case measure=>simp [intOf];omega
  · have HF:=zid (HA.out k (by omega))
    go_wp2_with fail
    go_ret;refine ⟨?_,bel⟩;rw [HF.out]
    rfl
theorem zj6 (fa:Option Addr) (cap:Nat) (c d:Int) (a x:Bool) (w:World):
 Calls Tryz.prog 124 #[.agg #[.slice fa 0 cap,.int .i64 c,.bool a,.int .i64 d,.bool x]] w fun e w'=>e= .returned (.int .i64 0)/\Below w.heap.size w w':=by
 go_enter Tryz.func124,Tryz.ntmps124
 go_wp2_with fail;refine wp_loop_rounds 1 ?_;rw [rounds_succ];go_wp2_with fail;go_ret;exact ⟨rfl,(Below.refl _ _).alloc (Nat.le_refl _) _⟩
theorem zie (fv:Value) (l:List Fl) (c d:Int) (a x:Bool) (w:World) (hv:IsL FL w fv l) (hs:used l<=4000000000000000000):
 Calls Tryz.prog 124 #[.agg #[fv,.int .i64 c,.bool a,.int .i64 d,.bool x]] w fun e w'=>e= .returned (.int .i64 (used l:Int))/\Below w.heap.size w w':=by
 have hv':=hv;obtain ⟨fa,cap,rfl,_,_,h3⟩:=hv
 rcases h3 with rfl | ⟨b,off,rfl,_⟩
 · exact zj6 fa cap c d a x w
 · exact zj5 b off cap l c d a x w hv' hs
def zdL (w:World) (f:Fl) (er:Int) (e:Ending) (w':World):Prop:=e= .returned (.tuple #[.agg #[.string f.n,.string f.d,.int .i64 f.s],.int .i64 er])/\Below w.heap.size w w'
theorem zia (f:Fl) (w:World):
 Calls Tryz.prog 125 #[.agg #[.string f.n,.string f.d,.int .i64 f.s]] w (zdL w ⟨f.n,f.d,f.d.size⟩ 0):=by
 go_enter Tryz.func125,Tryz.ntmps125
 go_wp2_with fail;refine bodyPost_ret (v:= .tuple #[.agg #[.string f.n,.string f.d,.int .i64 (f.d.size:Int)],.int .i64 0]) (by simp [results,Tryz.results125,go_sem]) rfl ?_;exact ⟨rfl,((Below.refl _ _).alloc (Nat.le_refl _) _).alloc (by simp) _⟩
theorem keep6 {w W W':World} {b1 b2:Nat} {x y z u v s:Value} (h:W.cell? ⟨b1,0,none⟩=some x/\W.cell? ⟨b1,1,none⟩=some y/\W.cell? ⟨b1,2,none⟩=some z/\W.cell? ⟨b1,3,none⟩=some u/\W.cell? ⟨b1,4,none⟩=some v/\W.cell? ⟨b2,0,none⟩=some s/\Below w.heap.size w W)
 (b:Below W.heap.size W W'):W'.cell? ⟨b1,0,none⟩=some x/\W'.cell? ⟨b1,1,none⟩=some y/\W'.cell? ⟨b1,2,none⟩=some z/\W'.cell? ⟨b1,3,none⟩=some u/\W'.cell? ⟨b1,4,none⟩=some v/\W'.cell? ⟨b2,0,none⟩=some s/\Below w.heap.size w W':=by
 obtain ⟨h0,h1,h2,h3,h4,h5,hb⟩:=h;have l1:=block_lt_of_cell h0;have l2:=block_lt_of_cell h5;exact ⟨(b.cell (p:=⟨b1,0,none⟩) l1).trans h0,(b.cell (p:=⟨b1,1,none⟩) l1).trans h1,(b.cell (p:=⟨b1,2,none⟩) l1).trans h2,(b.cell (p:=⟨b1,3,none⟩) l1).trans h3,(b.cell (p:=⟨b1,4,none⟩) l1).trans h4,(b.cell (p:=⟨b2,0,none⟩) l2).trans h5,hb.trans (b.mono hb.size)⟩
theorem have6 {W W':World} {b1 b2:Nat} {x y z u v s:Value} {T:TypeId} (hp:W.heap[b1]?=some (.cells #[x,y,z,u,v] T (0,0))) (h2:W.cell? ⟨b2,0,none⟩=some s) (b:Below W.heap.size W W'):
 W'.cell? ⟨b1,0,none⟩=some x/\W'.cell? ⟨b1,1,none⟩=some y/\W'.cell? ⟨b1,2,none⟩=some z/\W'.cell? ⟨b1,3,none⟩=some u/\W'.cell? ⟨b1,4,none⟩=some v/\W'.cell? ⟨b2,0,none⟩=some s/\Below W.heap.size W W':=by
 obtain ⟨p0,p1,p2,p3,p4⟩:=zaa hp;exact keep6 ⟨p0,p1,p2,p3,p4,h2,Below.refl _ _⟩ b
theorem zg9 (f:Fl) (s:ByteArray) (fv:Value) (D:Dk) (b1 b2:Nat) (w:World) (hp:w.heap[b1]?=some (.cells #[fv,.int .i64 D.c,.bool D.a,.int .i64 D.l,.bool D.x] 27 (0,0))) (h2:w.cell? ⟨b2,0,none⟩=some (.string s))
 (hs:f.d.size+s.size<=4000000000000000000) (h:D.c=0):
 Calls Tryz.prog 123 #[.agg #[.string f.n,.string f.d,.int .i64 f.s],.pointer (some ⟨b1,0,none⟩),.pointer (some ⟨b2,0,none⟩)] w (zdL w ⟨f.n,f.d++s,f.s⟩ 0):=by
 have l1:=(Array.getElem?_eq_some_iff.1 hp).1;have l2:=block_lt_of_cell h2;obtain ⟨p0,p1,p2,p3,p4⟩:=zaa hp
 have hs1:¬9223372036854775807<f.d.size+s.size:=by omega
 rw [h] at p1;clear hp hs
 go_enter Tryz.func123,Tryz.ntmps123
 go_wp2_with fail
 go_quiet (fail)
 obtain ⟨g0,g1,bb,gs⟩:=zay w #[.string f.n,.string f.d,.int .i64 f.s] #[.string ⟨#[]⟩,.string ⟨#[]⟩,.int .i64 0] 82 82;have hd:=hkeep g0 (zae nq);have hr:=hkeep g1 (zae nq);have hb:=bb.trans ((zae nq).mono (by omega));generalize World.drewN _ nq=w1 at hd hr hb ⊢
 have x2:w1.cell? ⟨b2,0,none⟩=some (.string s):=by rw [hb.cell (p:=⟨b2,0,none⟩) l2];exact h2
 obtain ⟨d0,d1,d2⟩:=cells3 hd;obtain ⟨e0,e1,e2⟩:=zb7 hd;obtain ⟨r0,r1,r2⟩:=cells3 hr;obtain ⟨q0,q1,q2⟩:=zb7 hr;clear g0 g1 bb gs hd hr p0 p1 p2 p3 p4;go_wp2_with fail;refine bodyPost_ret (v:= .tuple #[.agg #[.string f.n,.string (f.d++s),.int .i64 f.s],.int .i64 0]) (by simp [results,Tryz.results123,go_sem,r0,r1,r2]) rfl ?_;exact ⟨rfl,bel_st3 (hb.setCell (p:=⟨w.heap.size,1,none⟩) (Nat.le_refl _) _) (Nat.le_succ _) _ _ _⟩
theorem zg8 (f:Fl) (s:ByteArray) (fv:Value) (D:Dk) (b1 b2:Nat) (w:World) (hp:w.heap[b1]?=some (.cells #[fv,.int .i64 D.c,.bool D.a,.int .i64 D.l,.bool D.x] 27 (0,0))) (h2:w.cell? ⟨b2,0,none⟩=some (.string s))
 (hv:IsL FL w fv D.f) (hu:used D.f<=4000000000000000000) (hs:f.d.size+s.size<=4000000000000000000) (h0:0<D.c) (hc:D.c<=9223372036854775807) (hx:D.c<(used D.f:Int)+(s.size:Int)):
 Calls Tryz.prog 123 #[.agg #[.string f.n,.string f.d,.int .i64 f.s],.pointer (some ⟨b1,0,none⟩),.pointer (some ⟨b2,0,none⟩)] w (zdL w f 9):=by
 have l1:=(Array.getElem?_eq_some_iff.1 hp).1;have l2:=block_lt_of_cell h2;have U:=fun (W:World) (h:IsL FL W fv D.f)=>zie fv D.f D.c D.l D.a D.x W h hu;have HV:=zid hv
 have hs1:¬9223372036854775807<f.d.size+s.size:=by omega
 have H6:=zid fun W' b=>have6 (W':=W') hp h2 b;obtain ⟨u,hue⟩:∃u,used D.f=u:=⟨_,rfl⟩;rw [hue] at U hu hx;have U:=zid U
 have hcne:¬(D.c=0):=by omega
 have hcb:(D.c != 0)=true:=by simp [hcne]
 have hs2:(s.size:Int)<=4000000000000000000:=by omega
 have hu2:(u:Int)<=4000000000000000000:=by omega
 have hcmp:D.c-(u:Int)<(s.size:Int):=by omega
 obtain ⟨fl,c,a,d,x⟩:=D;dsimp only at*;clear hp hs hv hue hu h2 hx;obtain ⟨g0,g1,bb,gs⟩:=zay w #[.string f.n,.string f.d,.int .i64 f.s] #[.string ⟨#[]⟩,.string ⟨#[]⟩,.int .i64 0] 82 82;have G0:=zid g0;have G1:=zid g1;have BB:=zid bb;have GS:=zid gs;clear g0 g1 gs bb
 go_enter Tryz.func123,Tryz.ntmps123
 go_wp2_with fail;generalize (w.alloc _).alloc _=w0 at G0 G1 BB GS ⊢;have K0:=H6.out w0 BB.out
 have K1:w0.cell? ⟨b1,0,none⟩=some fv/\w0.cell? ⟨b1,1,none⟩=some (.int .i64 c)/\w0.cell? ⟨b1,2,none⟩=some (.bool a)/\w0.cell? ⟨b1,3,none⟩=some (.int .i64 d)/\w0.cell? ⟨b1,4,none⟩=some (.bool x)/\w0.cell? ⟨b2,0,none⟩=some (.string s)/\Below w0.heap.size w0 w0:=by
  obtain ⟨k0,k1,k2,k3,k4,k5,_⟩:=K0;exact ⟨k0,k1,k2,k3,k4,k5,Below.refl _ _⟩
 have HB:=zid fun W (b:Below w0.heap.size w0 W)=>BB.out.trans (b.mono (by have:=GS.out;omega));have HV0:=zid fun W (b:Below w0.heap.size w0 W)=>HV.out.keep (HB.out W b)
 have hw:IntKind.i64.wrap (c-(u:Int))=c-(u:Int):=by rw [IntKind.wrap_i64];omega
 clear K0
 go_region_held3 (fun w'=>w'.cell? ⟨b1,0,none⟩=some fv/\w'.cell? ⟨b1,1,none⟩=some (.int .i64 c)/\w'.cell? ⟨b1,2,none⟩=some (.bool a)/\w'.cell? ⟨b1,3,none⟩=some (.int .i64 d)/\w'.cell? ⟨b1,4,none⟩=some (.bool x)/\w'.cell? ⟨b2,0,none⟩=some (.string s)/\Below w0.heap.size w0 w')
  (first | assumption | exact keep6 (by assumption) (Below.refl _ _).drew | exact keep6 (by assumption) (by assumption))
  (first | (go_at_call 124;refine (U.out _ (HV0.out _ (by obtain ⟨_,_,_,_,_,_,h⟩:= ‹_/\_/\_/\_/\_/\_/\Below w0.heap.size w0 _›;exact h))).mono ?_;rintro e w4 ⟨rfl,b4⟩))
 obtain ⟨_,_,_,_,_,x2,hb0⟩:= ‹_/\_/\_/\_/\_/\_/\Below w0.heap.size w0 w4›;obtain ⟨d0,d1,d2⟩:=cells3 (hkeep G0.out hb0);obtain ⟨e0,e1,e2⟩:=zb7 (hkeep G0.out hb0);obtain ⟨r0,r1,r2⟩:=cells3 (hkeep G1.out hb0);obtain ⟨q0,q1,q2⟩:=zb7 (hkeep G1.out hb0);have hb:=HB.out _ hb0;go_wp2_with fail;refine bodyPost_ret (v:= .tuple #[.agg #[.string f.n,.string f.d,.int .i64 f.s],.int .i64 9]) (by simp [results,Tryz.results123,go_sem,r0,r1,r2]) rfl ?_;exact ⟨rfl,bel_st3 hb (Nat.le_succ _) _ _ _⟩
theorem zg7 (f:Fl) (s:ByteArray) (fv:Value) (D:Dk) (b1 b2:Nat) (w:World) (hp:w.heap[b1]?=some (.cells #[fv,.int .i64 D.c,.bool D.a,.int .i64 D.l,.bool D.x] 27 (0,0))) (h2:w.cell? ⟨b2,0,none⟩=some (.string s))
 (hv:IsL FL w fv D.f) (hu:used D.f<=4000000000000000000) (hs:f.d.size+s.size<=4000000000000000000) (h0:0<D.c) (hc:D.c<=9223372036854775807) (hx:(used D.f:Int)+(s.size:Int)<=D.c):
 Calls Tryz.prog 123 #[.agg #[.string f.n,.string f.d,.int .i64 f.s],.pointer (some ⟨b1,0,none⟩),.pointer (some ⟨b2,0,none⟩)] w (zdL w ⟨f.n,f.d++s,f.s⟩ 0):=by
 have l1:=(Array.getElem?_eq_some_iff.1 hp).1;have l2:=block_lt_of_cell h2;have U:=fun (W:World) (h:IsL FL W fv D.f)=>zie fv D.f D.c D.l D.a D.x W h hu;have HV:=zid hv
 have hs1:¬9223372036854775807<f.d.size+s.size:=by omega
 have H6:=zid fun W' b=>have6 (W':=W') hp h2 b;obtain ⟨u,hue⟩:∃u,used D.f=u:=⟨_,rfl⟩;rw [hue] at U hu hx;have U:=zid U
 have hcne:¬(D.c=0):=by omega
 have hcb:(D.c != 0)=true:=by simp [hcne]
 have hs2:(s.size:Int)<=4000000000000000000:=by omega
 have hu2:(u:Int)<=4000000000000000000:=by omega
 have hcmp:¬(D.c-(u:Int)<(s.size:Int)):=by omega
 obtain ⟨fl,c,a,d,x⟩:=D;dsimp only at*;clear hp hs hv hue hu h2 hx;obtain ⟨g0,g1,bb,gs⟩:=zay w #[.string f.n,.string f.d,.int .i64 f.s] #[.string ⟨#[]⟩,.string ⟨#[]⟩,.int .i64 0] 82 82;have G0:=zid g0;have G1:=zid g1;have BB:=zid bb;have GS:=zid gs;clear g0 g1 gs bb
 go_enter Tryz.func123,Tryz.ntmps123
 go_wp2_with fail;generalize (w.alloc _).alloc _=w0 at G0 G1 BB GS ⊢;have K0:=H6.out w0 BB.out
 have K1:w0.cell? ⟨b1,0,none⟩=some fv/\w0.cell? ⟨b1,1,none⟩=some (.int .i64 c)/\w0.cell? ⟨b1,2,none⟩=some (.bool a)/\w0.cell? ⟨b1,3,none⟩=some (.int .i64 d)/\w0.cell? ⟨b1,4,none⟩=some (.bool x)/\w0.cell? ⟨b2,0,none⟩=some (.string s)/\Below w0.heap.size w0 w0:=by
  obtain ⟨k0,k1,k2,k3,k4,k5,_⟩:=K0;exact ⟨k0,k1,k2,k3,k4,k5,Below.refl _ _⟩
 have HB:=zid fun W (b:Below w0.heap.size w0 W)=>BB.out.trans (b.mono (by have:=GS.out;omega));have HV0:=zid fun W (b:Below w0.heap.size w0 W)=>HV.out.keep (HB.out W b)
 have hw:IntKind.i64.wrap (c-(u:Int))=c-(u:Int):=by rw [IntKind.wrap_i64];omega
 clear K0
 go_region_held3 (fun w'=>w'.cell? ⟨b1,0,none⟩=some fv/\w'.cell? ⟨b1,1,none⟩=some (.int .i64 c)/\w'.cell? ⟨b1,2,none⟩=some (.bool a)/\w'.cell? ⟨b1,3,none⟩=some (.int .i64 d)/\w'.cell? ⟨b1,4,none⟩=some (.bool x)/\w'.cell? ⟨b2,0,none⟩=some (.string s)/\Below w0.heap.size w0 w')
  (first | assumption | exact keep6 (by assumption) (Below.refl _ _).drew | exact keep6 (by assumption) (by assumption))
  (first | (go_at_call 124;refine (U.out _ (HV0.out _ (by obtain ⟨_,_,_,_,_,_,h⟩:= ‹_/\_/\_/\_/\_/\_/\Below w0.heap.size w0 _›;exact h))).mono ?_;rintro e w4 ⟨rfl,b4⟩))
 obtain ⟨_,_,_,_,_,x2,hb0⟩:= ‹_/\_/\_/\_/\_/\_/\Below w0.heap.size w0 w4›;obtain ⟨d0,d1,d2⟩:=cells3 (hkeep G0.out hb0);obtain ⟨e0,e1,e2⟩:=zb7 (hkeep G0.out hb0);obtain ⟨r0,r1,r2⟩:=cells3 (hkeep G1.out hb0);obtain ⟨q0,q1,q2⟩:=zb7 (hkeep G1.out hb0);have hb:=HB.out _ hb0;go_wp2_with fail;refine bodyPost_ret (v:= .tuple #[.agg #[.string f.n,.string (f.d++s),.int .i64 f.s],.int .i64 0]) (by simp [results,Tryz.results123,go_sem,r0,r1,r2]) rfl ?_;exact ⟨rfl,bel_st3 (hb.setCell (p:=⟨w.heap.size,1,none⟩) (Nat.le_refl _) _) (Nat.le_succ _) _ _ _⟩
end Dsk
end Go.Proofs.YtgmppfpllogdcaaGreat

/-
  Parts of what the laws of this seat stand on:StoSync.
-/
import Derived.Test.YtgmppfpllogdcaaGreatBi1
import Derived.Deep.RegionHeld3
import Derived.Test.YtgmppfpllogdcaaGreatBi19
set_option maxRecDepth 100000
set_option maxHeartbeats 6400000
namespace Go.Proofs.YtgmppfpllogdcaaGreat
namespace Sto
open Go.RowKit So Dsk Rts
structure Ts (w:World) (b:Nat) (fv0 gv0 fv gv:Value) (S:St) (W:World):Prop where
 d:W.heap[b]?=some (.cells #[fv,.int .i64 S.d.c,.bool S.d.a,.int .i64 S.d.l,.bool S.d.x,.int .i64 S.v,gv,.int .i64 S.x,.int .i64 S.s,.int .i64 S.z,.int .u32 S.c] 31 (0,0))
 r:W.heap[b+1]?=some (.cells #[.slice none 0 0,.int .i64 0,.bool false,.int .i64 0,.bool false,.int .i64 0,.slice none 0 0,.int .i64 0,.int .i64 0,.int .i64 0,.int .u32 0] 31 (0,0))
 f:IsL FL W fv S.d.f
 g:IsL Rts.SL W gv S.g
 s:Sep fv b/\Sep fv (b+1)/\Sep gv b/\Sep gv (b+1)
 k:∀t,t<b->Sep fv0 t->Sep gv0 t->Sep fv t/\Sep gv t
 w:Below b w W
section
variable {w W W':World} {b:Nat} {fv0 gv0 fv gv fv' gv':Value} {S:St} {D':Dp.Dk}
theorem Ts.lt (h:Ts w b fv0 gv0 fv gv S W):b+1<W.heap.size:=(Array.getElem?_eq_some_iff.1 h.r).1
theorem Ts.keep (h:Ts w b fv0 gv0 fv gv S W) (k:Below W.heap.size W W'):Ts w b fv0 gv0 fv gv S W':=
 ⟨hkeep h.d k,hkeep h.r k,h.f.keep k,h.g.keep k,h.s,h.k,h.w.trans (k.mono (by have:=h.lt;omega))⟩
theorem zaw {j:Nat} (hj:j≠b) {o:Obj} (e:W.heap[j]?=some o) (x y z u v:Value):(set5 W b x y z u v).heap[j]?=some o:=by
 unfold set5;rw [Below.heap_setCell _ _ _ j (fun e=>hj e),Below.heap_setCell _ _ _ j (fun e=>hj e),Below.heap_setCell _ _ _ j (fun e=>hj e),Below.heap_setCell _ _ _ j (fun e=>hj e),Below.heap_setCell _ _ _ j (fun e=>hj e)];exact e
theorem Ts.disk (h:Ts w b fv0 gv0 fv gv S W) (hf:IsL FL W fv' D'.f) (hs:Sep fv' b/\Sep fv' (b+1)) (hk:∀t,t<b->Sep fv0 t->Sep gv0 t->Sep fv' t):
 ∃Z,((((W.setCell ⟨b,0,none⟩ fv').setCell ⟨b,1,none⟩ (.int .i64 D'.c)).setCell ⟨b,2,none⟩ (.bool D'.a)).setCell ⟨b,3,none⟩ (.int .i64 D'.l)).setCell ⟨b,4,none⟩ (.bool D'.x)=Z/\Ts w b fv0 gv0 fv' gv {S with d:=D'} Z/\(∀j,j≠b->∀o,W.heap[j]?=some o->Z.heap[j]?=some o)/\(∀v l,IsL FL W v l->Sep v b->IsL FL Z v l):=
 ⟨_,rfl,⟨heap_setCell_same _ _ 4 _ _ _ (heap_setCell_same _ _ 3 _ _ _ (heap_setCell_same _ _ 2 _ _ _ (heap_setCell_same _ _ 1 _ _ _ (heap_setCell_same _ _ 0 _ _ _ h.d)))),
  zaw (by omega) h.r _ _ _ _ _,IsL.set5 hf hs.1 _ _ _ _ _,IsL.set5 h.g h.s.2.2.1 _ _ _ _ _,⟨hs.1,hs.2,h.s.2.2.1,h.s.2.2.2⟩,fun t ht a c=>⟨hk t ht a c,(h.k t ht a c).2⟩,zai h.w (Nat.le_refl _) _ _ _ _ _⟩,
  fun j hj o e=>zaw hj e _ _ _ _ _,fun v l hv hs=>IsL.set5 hv hs _ _ _ _ _⟩
theorem Ts.sure (h:Ts w b fv0 gv0 fv gv S W) (x:Int):Ts w b fv0 gv0 fv gv {S with s:=x} (W.setCell ⟨b,8,none⟩ (.int .i64 x)):=
 ⟨heap_setCell_same _ _ 8 _ _ _ h.d,(Below.heap_setCell _ _ _ _ (fun e=>by have e:b+1=b:=e;omega)).trans h.r,IsL.setC h.f h.s.1 _ _,IsL.setC h.g h.s.2.2.1 _ _,h.s,h.k,h.w.setCell (p:=⟨b,8,none⟩) (Nat.le_refl _) _⟩
theorem zdU {k:Nat} {T:TypeId} {a0 a1 a2 a3 a4 a5 a6 a7 a8 a9 a10:Value} (hh:W.heap[k]?=some (.cells #[a0,a1,a2,a3,a4,a5,a6,a7,a8,a9,a10] T (0,0))) (v0 v1 v2 v3 v4 v5 v6 v7 v8 v9 v10:Value):
 ∃Z,((((((((((W.setCell ⟨k,0,none⟩ v0).setCell ⟨k,1,none⟩ v1).setCell ⟨k,2,none⟩ v2).setCell ⟨k,3,none⟩ v3).setCell ⟨k,4,none⟩ v4).setCell ⟨k,5,none⟩ v5).setCell ⟨k,6,none⟩ v6).setCell ⟨k,7,none⟩ v7).setCell ⟨k,8,none⟩ v8).setCell ⟨k,9,none⟩ v9).setCell ⟨k,10,none⟩ v10=Z/\
  Z.heap[k]?=some (.cells #[v0,v1,v2,v3,v4,v5,v6,v7,v8,v9,v10] T (0,0))/\(∀j,j≠k->∀o,W.heap[j]?=some o->Z.heap[j]?=some o)/\(∀v l,IsL FL W v l->Sep v k->IsL FL Z v l)/\(∀v l,IsL Rts.SL W v l->Sep v k->IsL Rts.SL Z v l)/\∀c w,c<=k->Below c w W->Below c w Z:=by
 obtain ⟨W0,e0⟩:∃U,W.setCell ⟨k,0,none⟩ v0=U:=⟨_,rfl⟩
 have k0:W0.heap[k]?=some (.cells #[v0,a1,a2,a3,a4,a5,a6,a7,a8,a9,a10] T (0,0)):=by rw [<-e0];exact heap_setCell_same _ _ 0 _ _ _ hh
 obtain ⟨W1,e1⟩:∃U,W0.setCell ⟨k,1,none⟩ v1=U:=⟨_,rfl⟩
 have k1:W1.heap[k]?=some (.cells #[v0,v1,a2,a3,a4,a5,a6,a7,a8,a9,a10] T (0,0)):=by rw [<-e1];exact heap_setCell_same _ _ 1 _ _ _ k0
 obtain ⟨W2,e2⟩:∃U,W1.setCell ⟨k,2,none⟩ v2=U:=⟨_,rfl⟩
 have k2:W2.heap[k]?=some (.cells #[v0,v1,v2,a3,a4,a5,a6,a7,a8,a9,a10] T (0,0)):=by rw [<-e2];exact heap_setCell_same _ _ 2 _ _ _ k1
 obtain ⟨W3,e3⟩:∃U,W2.setCell ⟨k,3,none⟩ v3=U:=⟨_,rfl⟩
 have k3:W3.heap[k]?=some (.cells #[v0,v1,v2,v3,a4,a5,a6,a7,a8,a9,a10] T (0,0)):=by rw [<-e3];exact heap_setCell_same _ _ 3 _ _ _ k2
 obtain ⟨W4,e4⟩:∃U,W3.setCell ⟨k,4,none⟩ v4=U:=⟨_,rfl⟩
 have k4:W4.heap[k]?=some (.cells #[v0,v1,v2,v3,v4,a5,a6,a7,a8,a9,a10] T (0,0)):=by rw [<-e4];exact heap_setCell_same _ _ 4 _ _ _ k3
 obtain ⟨W5,e5⟩:∃U,W4.setCell ⟨k,5,none⟩ v5=U:=⟨_,rfl⟩
 have k5:W5.heap[k]?=some (.cells #[v0,v1,v2,v3,v4,v5,a6,a7,a8,a9,a10] T (0,0)):=by rw [<-e5];exact heap_setCell_same _ _ 5 _ _ _ k4
 obtain ⟨W6,e6⟩:∃U,W5.setCell ⟨k,6,none⟩ v6=U:=⟨_,rfl⟩
 have k6:W6.heap[k]?=some (.cells #[v0,v1,v2,v3,v4,v5,v6,a7,a8,a9,a10] T (0,0)):=by rw [<-e6];exact heap_setCell_same _ _ 6 _ _ _ k5
 obtain ⟨W7,e7⟩:∃U,W6.setCell ⟨k,7,none⟩ v7=U:=⟨_,rfl⟩
 have k7:W7.heap[k]?=some (.cells #[v0,v1,v2,v3,v4,v5,v6,v7,a8,a9,a10] T (0,0)):=by rw [<-e7];exact heap_setCell_same _ _ 7 _ _ _ k6
 obtain ⟨W8,e8⟩:∃U,W7.setCell ⟨k,8,none⟩ v8=U:=⟨_,rfl⟩
 have k8:W8.heap[k]?=some (.cells #[v0,v1,v2,v3,v4,v5,v6,v7,v8,a9,a10] T (0,0)):=by rw [<-e8];exact heap_setCell_same _ _ 8 _ _ _ k7
 obtain ⟨W9,e9⟩:∃U,W8.setCell ⟨k,9,none⟩ v9=U:=⟨_,rfl⟩
 have k9:W9.heap[k]?=some (.cells #[v0,v1,v2,v3,v4,v5,v6,v7,v8,v9,a10] T (0,0)):=by rw [<-e9];exact heap_setCell_same _ _ 9 _ _ _ k8
 obtain ⟨W10,e10⟩:∃U,W9.setCell ⟨k,10,none⟩ v10=U:=⟨_,rfl⟩
 have k10:W10.heap[k]?=some (.cells #[v0,v1,v2,v3,v4,v5,v6,v7,v8,v9,v10] T (0,0)):=by rw [<-e10];exact heap_setCell_same _ _ 10 _ _ _ k9
 refine ⟨W10,by rw [e0,e1,e2,e3,e4,e5,e6,e7,e8,e9,e10],k10,?_,?_,?_,?_⟩
 · intro j hj o e
   have q:∀{U V:World} {i:Nat} {x:Value},U.setCell ⟨k,i,none⟩ x=V->U.heap[j]?=some o->V.heap[j]?=some o:=fun e h=>by rw [<-e];exact (Below.heap_setCell _ _ _ j (fun e=>hj e)).trans h
   exact q e10 (q e9 (q e8 (q e7 (q e6 (q e5 (q e4 (q e3 (q e2 (q e1 (q e0 e))))))))))
 · intro v l h hs
   have q:∀{U V:World} {i:Nat} {x:Value},U.setCell ⟨k,i,none⟩ x=V->IsL FL U v l->IsL FL V v l:=fun e h=>by rw [<-e];exact IsL.setC h hs _ _
   exact q e10 (q e9 (q e8 (q e7 (q e6 (q e5 (q e4 (q e3 (q e2 (q e1 (q e0 h))))))))))
 · intro v l h hs
   have q:∀{U V:World} {i:Nat} {x:Value},U.setCell ⟨k,i,none⟩ x=V->IsL Rts.SL U v l->IsL Rts.SL V v l:=fun e h=>by rw [<-e];exact IsL.setC h hs _ _
   exact q e10 (q e9 (q e8 (q e7 (q e6 (q e5 (q e4 (q e3 (q e2 (q e1 (q e0 h))))))))))
 · intro c w hc h
   have q:∀{U V:World} {i:Nat} {x:Value},U.setCell ⟨k,i,none⟩ x=V->Below c w U->Below c w V:=fun {U V i x} e h=>by rw [<-e];exact h.setCell (p:=⟨k,i,none⟩) hc x
   exact q e10 (q e9 (q e8 (q e7 (q e6 (q e5 (q e4 (q e3 (q e2 (q e1 (q e0 h))))))))))
theorem Ts.fin {fa ga:Option Addr} {fn fc gn gc:Nat} (h:Ts w w.heap.size fv0 gv0 (.slice fa fn fc) (.slice ga gn gc) S W):
 ∃Z,((((((((((W.setCell ⟨w.heap.size+1,0,none⟩ (.slice fa fn fc)).setCell ⟨w.heap.size+1,1,none⟩ (.int .i64 S.d.c)).setCell ⟨w.heap.size+1,2,none⟩ (.bool S.d.a)).setCell ⟨w.heap.size+1,3,none⟩ (.int .i64 S.d.l)).setCell ⟨w.heap.size+1,4,none⟩ (.bool S.d.x)).setCell ⟨w.heap.size+1,5,none⟩ (.int .i64 S.v)).setCell ⟨w.heap.size+1,6,none⟩ (.slice ga gn gc)).setCell ⟨w.heap.size+1,7,none⟩ (.int .i64 S.x)).setCell ⟨w.heap.size+1,8,none⟩ (.int .i64 S.s)).setCell ⟨w.heap.size+1,9,none⟩ (.int .i64 S.z)).setCell ⟨w.heap.size+1,10,none⟩ (.int .u32 S.c)=Z/\
  Z.heap[w.heap.size+1]?=some (.cells #[.slice fa fn fc,.int .i64 S.d.c,.bool S.d.a,.int .i64 S.d.l,.bool S.d.x,.int .i64 S.v,.slice ga gn gc,.int .i64 S.x,.int .i64 S.s,.int .i64 S.z,.int .u32 S.c] 31 (0,0))/\StS w fv0 gv0 S (.slice fa fn fc) (.slice ga gn gc) Z:=by
 obtain ⟨Z,h1,h2,_,h4,h5,h6⟩:=zdU h.r (.slice fa fn fc) (.int .i64 S.d.c) (.bool S.d.a) (.int .i64 S.d.l) (.bool S.d.x) (.int .i64 S.v) (.slice ga gn gc) (.int .i64 S.x) (.int .i64 S.s) (.int .i64 S.z) (.int .u32 S.c);exact ⟨Z,h1,h2,h4 _ _ h.f h.s.2.1,h5 _ _ h.g h.s.2.2.2,h.k,h6 _ _ (Nat.le_succ _) h.w⟩
theorem Ts.new {W0:World} (hf:IsL FL w fv S.d.f) (hg:IsL Rts.SL w gv S.g) (e:(w.alloc (.cells #[fv,.int .i64 S.d.c,.bool S.d.a,.int .i64 S.d.l,.bool S.d.x,.int .i64 S.v,gv,.int .i64 S.x,.int .i64 S.s,.int .i64 S.z,.int .u32 S.c] 31)).alloc (.cells #[.slice none 0 0,.int .i64 0,.bool false,.int .i64 0,.bool false,.int .i64 0,.slice none 0 0,.int .i64 0,.int .i64 0,.int .i64 0,.int .u32 0] 31)=W0):Ts w w.heap.size fv gv fv gv S W0:=by
 obtain ⟨g0,g1,gb,gs⟩:=zay w #[fv,.int .i64 S.d.c,.bool S.d.a,.int .i64 S.d.l,.bool S.d.x,.int .i64 S.v,gv,.int .i64 S.x,.int .i64 S.s,.int .i64 S.z,.int .u32 S.c] #[.slice none 0 0,.int .i64 0,.bool false,.int .i64 0,.bool false,.int .i64 0,.slice none 0 0,.int .i64 0,.int .i64 0,.int .i64 0,.int .u32 0] 31 31;rw [e] at g0 g1 gb gs;exact ⟨g0,g1,hf.keep gb,hg.keep gb,⟨IsL.sep_new hf (Nat.le_refl _),IsL.sep_new hf (by omega),IsL.sep_new hg (Nat.le_refl _),IsL.sep_new hg (by omega)⟩,fun _ _ a c=>⟨a,c⟩,gb⟩
end
structure Db (W:World) (b t:Nat) (fv:Value) (D:Dp.Dk):Prop where
 lt:b+1<t
 d:W.heap[t]?=some (.cells #[fv,.int .i64 D.c,.bool D.a,.int .i64 D.l,.bool D.x] 27 (0,0))
 f:IsL FL W fv D.f
 s:Sep fv b/\Sep fv (b+1)/\Sep fv t
def SyR (w:World) (b:Nat) (fv0 gv0 fv gv:Value) (S:St) (D:Dp.Dk) (t:Nat) (W:World):Prop:=∃a n c,Ts w b fv0 gv0 fv gv S W/\Db W b t (.slice a n c) D/\∀j,j<b->Sep fv0 j->Sep gv0 j->Sep (.slice a n c) j
theorem zld {w W W':World} {b:Nat} {v0 v1 v2 v3 v4 v5 v6 v7 v8 v9 v10:Value}
 (h:W.cell? ⟨b,0,none⟩=some v0/\W.cell? ⟨b,1,none⟩=some v1/\W.cell? ⟨b,2,none⟩=some v2/\W.cell? ⟨b,3,none⟩=some v3/\W.cell? ⟨b,4,none⟩=some v4/\W.cell? ⟨b,5,none⟩=some v5/\W.cell? ⟨b,6,none⟩=some v6/\W.cell? ⟨b,7,none⟩=some v7/\W.cell? ⟨b,8,none⟩=some v8/\W.cell? ⟨b,9,none⟩=some v9/\W.cell? ⟨b,10,none⟩=some v10/\Below w.heap.size w W) (k:Below W.heap.size W W'):
 W'.cell? ⟨b,0,none⟩=some v0/\W'.cell? ⟨b,1,none⟩=some v1/\W'.cell? ⟨b,2,none⟩=some v2/\W'.cell? ⟨b,3,none⟩=some v3/\W'.cell? ⟨b,4,none⟩=some v4/\W'.cell? ⟨b,5,none⟩=some v5/\W'.cell? ⟨b,6,none⟩=some v6/\W'.cell? ⟨b,7,none⟩=some v7/\W'.cell? ⟨b,8,none⟩=some v8/\W'.cell? ⟨b,9,none⟩=some v9/\W'.cell? ⟨b,10,none⟩=some v10/\Below w.heap.size w W':=by
 obtain ⟨h0,h1,h2,h3,h4,h5,h6,h7,h8,h9,h10,hb⟩:=h;have q:∀{o:Nat} {x:Value},W.cell? ⟨b,o,none⟩=some x->W'.cell? ⟨b,o,none⟩=some x:=fun e=>(World.cell?_of_block (k.block b (block_lt_of_cell e))).trans e;exact ⟨q h0,q h1,q h2,q h3,q h4,q h5,q h6,q h7,q h8,q h9,q h10,hb.trans (k.mono hb.size)⟩
theorem belS {w W:World} {b:Nat} {v0 v1 v2 v3 v4 v5 v6 v7 v8 v9 v10:Value}
 (h:W.cell? ⟨b,0,none⟩=some v0/\W.cell? ⟨b,1,none⟩=some v1/\W.cell? ⟨b,2,none⟩=some v2/\W.cell? ⟨b,3,none⟩=some v3/\W.cell? ⟨b,4,none⟩=some v4/\W.cell? ⟨b,5,none⟩=some v5/\W.cell? ⟨b,6,none⟩=some v6/\W.cell? ⟨b,7,none⟩=some v7/\W.cell? ⟨b,8,none⟩=some v8/\W.cell? ⟨b,9,none⟩=some v9/\W.cell? ⟨b,10,none⟩=some v10/\Below w.heap.size w W):Below w.heap.size w W:=h.2.2.2.2.2.2.2.2.2.2.2
theorem keepA {w W:World} {b:Nat} {o:Obj} {v0 v1 v2 v3 v4 v5 v6 v7 v8 v9 v10:Value}
 (h:W.cell? ⟨b,0,none⟩=some v0/\W.cell? ⟨b,1,none⟩=some v1/\W.cell? ⟨b,2,none⟩=some v2/\W.cell? ⟨b,3,none⟩=some v3/\W.cell? ⟨b,4,none⟩=some v4/\W.cell? ⟨b,5,none⟩=some v5/\W.cell? ⟨b,6,none⟩=some v6/\W.cell? ⟨b,7,none⟩=some v7/\W.cell? ⟨b,8,none⟩=some v8/\W.cell? ⟨b,9,none⟩=some v9/\W.cell? ⟨b,10,none⟩=some v10/\Below w.heap.size w W):(W.alloc o).cell? ⟨b,0,none⟩=some v0/\(W.alloc o).cell? ⟨b,1,none⟩=some v1/\(W.alloc o).cell? ⟨b,2,none⟩=some v2/\(W.alloc o).cell? ⟨b,3,none⟩=some v3/\(W.alloc o).cell? ⟨b,4,none⟩=some v4/\(W.alloc o).cell? ⟨b,5,none⟩=some v5/\(W.alloc o).cell? ⟨b,6,none⟩=some v6/\(W.alloc o).cell? ⟨b,7,none⟩=some v7/\(W.alloc o).cell? ⟨b,8,none⟩=some v8/\(W.alloc o).cell? ⟨b,9,none⟩=some v9/\(W.alloc o).cell? ⟨b,10,none⟩=some v10/\Below w.heap.size w (W.alloc o):=zld h ((Below.refl _ _).alloc (Nat.le_refl _) _)
theorem belQ {w W W':World} {b:Nat} {v0 v1 v2 v3 v4 v5 v6 v7 v8 v9 v10:Value}
 (h:W.cell? ⟨b,0,none⟩=some v0/\W.cell? ⟨b,1,none⟩=some v1/\W.cell? ⟨b,2,none⟩=some v2/\W.cell? ⟨b,3,none⟩=some v3/\W.cell? ⟨b,4,none⟩=some v4/\W.cell? ⟨b,5,none⟩=some v5/\W.cell? ⟨b,6,none⟩=some v6/\W.cell? ⟨b,7,none⟩=some v7/\W.cell? ⟨b,8,none⟩=some v8/\W.cell? ⟨b,9,none⟩=some v9/\W.cell? ⟨b,10,none⟩=some v10/\Below w.heap.size w W) (_:Below W.heap.size W W'):Below w.heap.size w W:=belS h
theorem keepAD {w W:World} {b:Nat} {o:Obj} {v0 v1 v2 v3 v4 v5 v6 v7 v8 v9 v10:Value}
 (h:W.cell? ⟨b,0,none⟩=some v0/\W.cell? ⟨b,1,none⟩=some v1/\W.cell? ⟨b,2,none⟩=some v2/\W.cell? ⟨b,3,none⟩=some v3/\W.cell? ⟨b,4,none⟩=some v4/\W.cell? ⟨b,5,none⟩=some v5/\W.cell? ⟨b,6,none⟩=some v6/\W.cell? ⟨b,7,none⟩=some v7/\W.cell? ⟨b,8,none⟩=some v8/\W.cell? ⟨b,9,none⟩=some v9/\W.cell? ⟨b,10,none⟩=some v10/\Below w.heap.size w W):(W.alloc o).drew.cell? ⟨b,0,none⟩=some v0/\(W.alloc o).drew.cell? ⟨b,1,none⟩=some v1/\(W.alloc o).drew.cell? ⟨b,2,none⟩=some v2/\(W.alloc o).drew.cell? ⟨b,3,none⟩=some v3/\(W.alloc o).drew.cell? ⟨b,4,none⟩=some v4/\(W.alloc o).drew.cell? ⟨b,5,none⟩=some v5/\(W.alloc o).drew.cell? ⟨b,6,none⟩=some v6/\(W.alloc o).drew.cell? ⟨b,7,none⟩=some v7/\(W.alloc o).drew.cell? ⟨b,8,none⟩=some v8/\(W.alloc o).drew.cell? ⟨b,9,none⟩=some v9/\(W.alloc o).drew.cell? ⟨b,10,none⟩=some v10/\Below w.heap.size w (W.alloc o).drew:=zld h ((Below.refl _ _).alloc (Nat.le_refl _) _).drew
theorem zaI (w:World) (cs:Array Value) (T:TypeId):(w.alloc (.cells cs T)).drew.heap[w.heap.size]?=some (.cells cs T (0,0)):=heap_alloc_new w _
theorem zbc (w:World) (o:Obj):w.heap.size<=(w.alloc o).drew.heap.size:=((Below.refl _ _).alloc (Nat.le_refl _) _).drew.size
theorem zaW (w:World) (o:Obj):w.heap.size<(w.alloc o).drew.heap.size:=by show w.heap.size<(w.alloc o).heap.size;simp
theorem keep6 {w W:World} {b t:Nat} {v0 v1 v2 v3 v4 v5 v6 v7 v8 v9 v10 x0 x1 x2 x3 x4:Value} (hb:b<w.heap.size)
 (h:W.cell? ⟨b,0,none⟩=some v0/\W.cell? ⟨b,1,none⟩=some v1/\W.cell? ⟨b,2,none⟩=some v2/\W.cell? ⟨b,3,none⟩=some v3/\W.cell? ⟨b,4,none⟩=some v4/\W.cell? ⟨b,5,none⟩=some v5/\W.cell? ⟨b,6,none⟩=some v6/\W.cell? ⟨b,7,none⟩=some v7/\W.cell? ⟨b,8,none⟩=some v8/\W.cell? ⟨b,9,none⟩=some v9/\W.cell? ⟨b,10,none⟩=some v10/\Below w.heap.size w W) (ht:w.heap.size<=t):(((((W.setCell ⟨t,0,none⟩ x0).setCell ⟨t,1,none⟩ x1).setCell ⟨t,2,none⟩ x2).setCell ⟨t,3,none⟩ x3).setCell ⟨t,4,none⟩ x4).cell? ⟨b,0,none⟩=some v0/\(((((W.setCell ⟨t,0,none⟩ x0).setCell ⟨t,1,none⟩ x1).setCell ⟨t,2,none⟩ x2).setCell ⟨t,3,none⟩ x3).setCell ⟨t,4,none⟩ x4).cell? ⟨b,1,none⟩=some v1/\(((((W.setCell ⟨t,0,none⟩ x0).setCell ⟨t,1,none⟩ x1).setCell ⟨t,2,none⟩ x2).setCell ⟨t,3,none⟩ x3).setCell ⟨t,4,none⟩ x4).cell? ⟨b,2,none⟩=some v2/\(((((W.setCell ⟨t,0,none⟩ x0).setCell ⟨t,1,none⟩ x1).setCell ⟨t,2,none⟩ x2).setCell ⟨t,3,none⟩ x3).setCell ⟨t,4,none⟩ x4).cell? ⟨b,3,none⟩=some v3/\(((((W.setCell ⟨t,0,none⟩ x0).setCell ⟨t,1,none⟩ x1).setCell ⟨t,2,none⟩ x2).setCell ⟨t,3,none⟩ x3).setCell ⟨t,4,none⟩ x4).cell? ⟨b,4,none⟩=some v4/\(((((W.setCell ⟨t,0,none⟩ x0).setCell ⟨t,1,none⟩ x1).setCell ⟨t,2,none⟩ x2).setCell ⟨t,3,none⟩ x3).setCell ⟨t,4,none⟩ x4).cell? ⟨b,5,none⟩=some v5/\(((((W.setCell ⟨t,0,none⟩ x0).setCell ⟨t,1,none⟩ x1).setCell ⟨t,2,none⟩ x2).setCell ⟨t,3,none⟩ x3).setCell ⟨t,4,none⟩ x4).cell? ⟨b,6,none⟩=some v6/\(((((W.setCell ⟨t,0,none⟩ x0).setCell ⟨t,1,none⟩ x1).setCell ⟨t,2,none⟩ x2).setCell ⟨t,3,none⟩ x3).setCell ⟨t,4,none⟩ x4).cell? ⟨b,7,none⟩=some v7/\(((((W.setCell ⟨t,0,none⟩ x0).setCell ⟨t,1,none⟩ x1).setCell ⟨t,2,none⟩ x2).setCell ⟨t,3,none⟩ x3).setCell ⟨t,4,none⟩ x4).cell? ⟨b,8,none⟩=some v8/\(((((W.setCell ⟨t,0,none⟩ x0).setCell ⟨t,1,none⟩ x1).setCell ⟨t,2,none⟩ x2).setCell ⟨t,3,none⟩ x3).setCell ⟨t,4,none⟩ x4).cell? ⟨b,9,none⟩=some v9/\(((((W.setCell ⟨t,0,none⟩ x0).setCell ⟨t,1,none⟩ x1).setCell ⟨t,2,none⟩ x2).setCell ⟨t,3,none⟩ x3).setCell ⟨t,4,none⟩ x4).cell? ⟨b,10,none⟩=some v10/\Below w.heap.size w (((((W.setCell ⟨t,0,none⟩ x0).setCell ⟨t,1,none⟩ x1).setCell ⟨t,2,none⟩ x2).setCell ⟨t,3,none⟩ x3).setCell ⟨t,4,none⟩ x4):=by
 obtain ⟨h0,h1,h2,h3,h4,h5,h6,h7,h8,h9,h10,hw⟩:=h
 have q:∀{o:Nat} {x:Value},W.cell? ⟨b,o,none⟩=some x->(((((W.setCell ⟨t,0,none⟩ x0).setCell ⟨t,1,none⟩ x1).setCell ⟨t,2,none⟩ x2).setCell ⟨t,3,none⟩ x3).setCell ⟨t,4,none⟩ x4).cell? ⟨b,o,none⟩=some x:=fun {o x} e=>by
  have n:∀j,(⟨t,j,none⟩:Addr)≠⟨b,o,none⟩:=fun j e=>by injection e with e;omega
  rw [World.cell?_setCell_other _ _ _ _ (n _),World.cell?_setCell_other _ _ _ _ (n _),World.cell?_setCell_other _ _ _ _ (n _),World.cell?_setCell_other _ _ _ _ (n _),World.cell?_setCell_other _ _ _ _ (n _)];exact e
 exact ⟨q h0,q h1,q h2,q h3,q h4,q h5,q h6,q h7,q h8,q h9,q h10,zai hw ht _ _ _ _ _⟩
section
variable {w w0 Wc W5:World} {b:Nat} {fv0 gv0 fv gv:Value} {S:St} {D:Dp.Dk} {a:Option Addr} {n c:Nat}
theorem SyR.A (T:Ts w b fv0 gv0 fv gv S w0) (q:Below w0.heap.size w0 Wc) (k:DkS Wc fv D (.slice a n c) W5):SyR w b fv0 gv0 fv gv S D W5.heap.size (W5.alloc (.cells #[.slice a n c,.int .i64 D.c,.bool D.a,.int .i64 D.l,.bool D.x] 27)):=by
 have h1:=T.lt;have h2:=q.size;have h3:=k.w.size;have al:=(Below.refl W5.heap.size W5).alloc (Nat.le_refl _) (.cells #[.slice a n c,.int .i64 D.c,.bool D.a,.int .i64 D.l,.bool D.x] 27);refine ⟨a,n,c,(T.keep (q.trans (k.w.mono h2))).keep al,⟨by omega,heap_alloc_new W5 _,k.f.keep al,k.s _ (by omega) T.s.1,k.s _ (by omega) T.s.2.1,IsL.sep_new k.f (Nat.le_refl _)⟩,fun j hj h h'=>k.s _ (by omega) (T.k j hj h h').1⟩
theorem SyR.B (T:Ts w b fv0 gv0 fv gv S w0) (q:Below w0.heap.size w0 Wc) (k:DkS Wc fv D (.slice a n c) W5) {t:Nat} {x0 x1 x2 x3 x4:Value} (hz:W5.heap[t]?=some (.cells #[x0,x1,x2,x3,x4] 27 (0,0))) (h4:w0.heap.size<=t) (h5:t<Wc.heap.size):
 SyR w b fv0 gv0 fv gv S D t (((((W5.setCell ⟨t,0,none⟩ (.slice a n c)).setCell ⟨t,1,none⟩ (.int .i64 D.c)).setCell ⟨t,2,none⟩ (.bool D.a)).setCell ⟨t,3,none⟩ (.int .i64 D.l)).setCell ⟨t,4,none⟩ (.bool D.x)):=by
 have h1:=T.lt;have h2:=q.size;have h3:=k.w.size;have hs:Sep (.slice a n c) t:=k.s t h5 (IsL.sep_new T.f h4);have T5:=T.keep (q.trans (k.w.mono h2));have o:∀j,j≠t->∀o,W5.heap[j]?=some o->(set5 W5 t (.slice a n c) (.int .i64 D.c) (.bool D.a) (.int .i64 D.l) (.bool D.x)).heap[j]?=some o:=fun j hj o e=>zaw hj e _ _ _ _ _;refine ⟨a,n,c,⟨o _ (by omega) _ T5.d,o _ (by omega) _ T5.r,IsL.set5 T5.f (IsL.sep_new T.f h4) _ _ _ _ _,?_,T5.s,T5.k,zai T5.w (by omega) _ _ _ _ _⟩,⟨by omega,za5 hz _ _ _ _ _,IsL.set5 k.f hs _ _ _ _ _,k.s _ (by omega) T.s.1,k.s _ (by omega) T.s.2.1,hs⟩,fun j hj h h'=>k.s _ (by omega) (T.k j hj h h').1⟩;exact IsL.set5 T5.g (IsL.sep_new T.g h4) _ _ _ _ _
end
theorem zda (fa ga:Option Addr) (fn fc gn gc:Nat) (S:St) (w:World) (k:Nat) (hv:IsL FL w (.slice fa fn fc) S.d.f) (hg:IsL Rts.SL w (.slice ga gn gc) S.g) (hn:S.g≠[]) (hB:Stb S) (hS:Bd S.d k) (hk:k<=100000):
 Calls Tryz.prog 18 #[zag (.slice fa fn fc) (.slice ga gn gc) S] w (zdW w (.slice fa fn fc) (.slice ga gn gc) (zat S)):=by
 have T0:=zid fun (W0:World)=> @Ts.new w (.slice fa fn fc) (.slice ga gn gc) S W0 hv hg;have RL:=zid fun (W:World) (h:IsL Rts.SL W (.slice ga gn gc) S.g)=>zgj (.slice fa fn fc) (.slice ga gn gc) S W h hn hB;have RS:=zid fun (W:World) (n:ByteArray) (h:IsL FL W (.slice fa fn fc) S.d.f)=>zed hS (by omega) n h;clear hv hg hn hB hS;unfold zag at RL ⊢;unfold zac at RS
 go_enter Tryz.func18,Tryz.ntmps18
 go_upto_region 1 with (fail);obtain ⟨w0,hW⟩:∃W0,(w.alloc (.cells #[.slice fa fn fc,.int .i64 S.d.c,.bool S.d.a,.int .i64 S.d.l,.bool S.d.x,.int .i64 S.v,.slice ga gn gc,.int .i64 S.x,.int .i64 S.s,.int .i64 S.z,.int .u32 S.c] 31)).alloc (.cells #[.slice none 0 0,.int .i64 0,.bool false,.int .i64 0,.bool false,.int .i64 0,.slice none 0 0,.int .i64 0,.int .i64 0,.int .i64 0,.int .u32 0] 31)=W0:=⟨_,rfl⟩;rw [hW];have T1:=T0.out w0 hW;clear T0 hW;obtain ⟨⟨k0,k1,k2,k3,k4⟩,k5,k6,k7,k8,k9,k10⟩:=zab T1.d;have b0:=Below.refl w0.heap.size w0;have TT:=zid T1;clear T1;obtain ⟨R,hR⟩:∃R,Dp.sync S.d (segN (lastG S).b)=R:=⟨_,rfl⟩;have RN:=zid (show ∀W:World,IsL FL W (.slice fa fn fc) S.d.f->_ from fun W h=>RS.out W (segN (lastG S).b) h);rw [hR] at RN
 have HSY:=zid (show zat S=({S with d:=R.1,s:=if R.2=0 then S.x else S.s},R.2) from by unfold zat;rw [hR])
 clear hR;generalize segN (lastG S).b=nn at*
 go_cut [4,5] (fun p v wc=>∃t:Nat,p= .pointer (some ⟨t,0,none⟩)/\v= .int .i64 R.2/\SyR w w.heap.size (.slice fa fn fc) (.slice ga gn gc) (.slice fa fn fc) (.slice ga gn gc) S R.1 t wc)
 case first=>
  have ST:w0.cell? ⟨w.heap.size,0,none⟩=some (.slice fa fn fc)/\w0.cell? ⟨w.heap.size,1,none⟩=some (.int .i64 S.d.c)/\w0.cell? ⟨w.heap.size,2,none⟩=some (.bool S.d.a)/\w0.cell? ⟨w.heap.size,3,none⟩=some (.int .i64 S.d.l)/\w0.cell? ⟨w.heap.size,4,none⟩=some (.bool S.d.x)/\w0.cell? ⟨w.heap.size,5,none⟩=some (.int .i64 S.v)/\w0.cell? ⟨w.heap.size,6,none⟩=some (.slice ga gn gc)/\w0.cell? ⟨w.heap.size,7,none⟩=some (.int .i64 S.x)/\w0.cell? ⟨w.heap.size,8,none⟩=some (.int .i64 S.s)/\w0.cell? ⟨w.heap.size,9,none⟩=some (.int .i64 S.z)/\w0.cell? ⟨w.heap.size,10,none⟩=some (.int .u32 S.c)/\Below w0.heap.size w0 w0:=⟨k0,k1,k2,k3,k4,k5,k6,k7,k8,k9,k10,b0⟩;clear k0 k1 k2 k3 k4 k5 k6 k7 k8 k9 k10 b0;have hb0:w.heap.size<w0.heap.size:=Nat.lt_of_succ_lt TT.out.lt
  go_region_held3 (fun W=>W.cell? ⟨w.heap.size,0,none⟩=some (.slice fa fn fc)/\W.cell? ⟨w.heap.size,1,none⟩=some (.int .i64 S.d.c)/\W.cell? ⟨w.heap.size,2,none⟩=some (.bool S.d.a)/\W.cell? ⟨w.heap.size,3,none⟩=some (.int .i64 S.d.l)/\W.cell? ⟨w.heap.size,4,none⟩=some (.bool S.d.x)/\W.cell? ⟨w.heap.size,5,none⟩=some (.int .i64 S.v)/\W.cell? ⟨w.heap.size,6,none⟩=some (.slice ga gn gc)/\W.cell? ⟨w.heap.size,7,none⟩=some (.int .i64 S.x)/\W.cell? ⟨w.heap.size,8,none⟩=some (.int .i64 S.s)/\W.cell? ⟨w.heap.size,9,none⟩=some (.int .i64 S.z)/\W.cell? ⟨w.heap.size,10,none⟩=some (.int .u32 S.c)/\Below w0.heap.size w0 W) (first | with_reducible assumption | with_reducible exact keep5 (by assumption) | with_reducible exact keepA (by assumption) | with_reducible exact keepAD (by assumption) | with_reducible exact keep6 hb0 (by assumption) (by assumption) | with_reducible exact zld (by assumption) (Below.refl _ _).drew | with_reducible exact zld (by assumption) (by assumption)) (first | (go_at_call 45;refine (RL.out _ (by first | exact TT.out.g.keep (belS (by assumption)) | exact TT.out.g.keep (Below.refl _ _).drew)).mono ?_;rintro e w4 ⟨rfl,b4⟩;have h4:w0.heap.size<=w4.heap.size:=Nat.le_trans (by first | exact Nat.le_refl _ | exact zbc _ _) b4.size;(first | (with_reducible have z4:=hkeep (zaI _ _ _) b4;have y4:w0.heap.size<w4.heap.size:=Nat.lt_of_lt_of_le (zaW _ _) b4.size;have x4:w0.heap.size<=w0.heap.size:=Nat.le_refl _) | skip)) | (go_at_call 46;refine (RN.out _ (by first | exact TT.out.f.keep (belS (by assumption)) | exact TT.out.f.keep (Below.refl _ _).drew)).mono ?_;rintro e w5 ⟨a5,n5,c5,rfl,k5'⟩;have q5:=k5'.w;have s5:=zld (by assumption) q5;have q4:=belQ (by assumption) q5;(first | (with_reducible have z5:=hkeep (heap_alloc_new _ _) q5) | (with_reducible have z5:=hkeep z4 q5) | skip);(first | (have zc:=zaa z5;have zf:=zad z5;obtain ⟨y0,y1,y2,y3,y4⟩:=zc;obtain ⟨yf0,yf1,yf2,yf3,yf4⟩:=zf) | skip);unfold zac))
  all_goals
   go_wp2_with fail
   go_meet
   case rel=>
    first
     | (refine ⟨_,rfl,rfl,?_⟩;with_reducible exact SyR.A TT.out q4 k5')
     | (refine ⟨_,rfl,rfl,?_⟩;with_reducible exact SyR.B TT.out q4 k5' z5 (by assumption) (by first | assumption | simp))
 case rest=>
  clear k0 k1 k2 k3 k4 k5 k6 k7 k8 k9 k10 b0;obtain ⟨t,rfl,rfl,a,n,c,T2,DB,hk2⟩:=hcut;obtain ⟨RD,RE⟩:=R;dsimp only at*;have LY:=zid (T2.disk DB.f ⟨DB.s.1,DB.s.2.1⟩ hk2);obtain ⟨⟨k0,k1,k2,k3,k4⟩,k5,k6,k7,k8,k9,k10⟩:=zab T2.d;have kf:=zaf T2.d;obtain ⟨d0,d1,d2,d3,d4⟩:=zaa DB.d;clear T2 DB hk2 TT
  go_upto_if 17 with (fail)
  obtain ⟨Z,hZ,T3,_,_⟩:=LY.out;rw [hZ];clear hZ LY k0 k1 k2 k3 k4 k5 k6 k7 k8 k9 k10 d0 d1 d2 d3 d4 kf;have TS:=zid T3;have TF:=zid T3.fin;have TU:=zid ((T3.sure S.x).fin);have kr:=zaf T3.r;obtain ⟨⟨r0,r1,r2,r3,r4⟩,r5,r6,r7,r8,r9,r10⟩:=zab T3.r;obtain ⟨⟨k0,k1,k2,k3,k4⟩,k5,k6,k7,k8,k9,k10⟩:=zab T3.d;have kf:=zaf T3.d
  by_cases hz:RE=0
  · subst hz
    have U:=T3.sure S.x
    have US:=zid U;clear T3 TF U;go_upto_region 5 with (fail);have U:=US.out;dsimp only at U;generalize Z.setCell ⟨w.heap.size,8,none⟩ (.int .i64 S.x)=Z2 at U TU ⊢;clear kf kr r0 r1 r2 r3 r4 r5 r6 r7 r8 r9 r10 k0 k1 k2 k3 k4 k5 k6 k7 k8 k9 k10;have kr:=zaf U.r;obtain ⟨⟨r0,r1,r2,r3,r4⟩,r5,r6,r7,r8,r9,r10⟩:=zab U.r;obtain ⟨⟨k0,k1,k2,k3,k4⟩,k5,k6,k7,k8,k9,k10⟩:=zab U.d;clear U;go_wp2_with fail;obtain ⟨Z3,hZ3,Z4,Z5⟩:=TU.out;rw [hZ3];obtain ⟨⟨s0,s1,s2,s3,s4⟩,s5,s6,s7,s8,s9,s10⟩:=zab Z4
    refine bodyPost_ret (v:= .tuple #[zag (.slice a n c) (.slice ga gn gc) {S with d:=RD,s:=S.x},.int .i64 0]) (by unfold zag;simp [results,Tryz.results18,go_sem,s0,s1,s2,s3,s4,s5,s6,s7,s8,s9,s10]) rfl ?_
    rw [HSY.out];exact ⟨_,_,_,_,_,_,rfl,Z5⟩
  · have hz':=ne_b hz
    have HSE:=zid (if_neg hz:(if RE=0 then S.x else S.s)=S.s)
    clear T3 TU hz;go_wp2_with fail;obtain ⟨Z3,hZ3,Z4,Z5⟩:=TF.out;rw [hZ3];obtain ⟨⟨s0,s1,s2,s3,s4⟩,s5,s6,s7,s8,s9,s10⟩:=zab Z4
    refine bodyPost_ret (v:= .tuple #[zag (.slice a n c) (.slice ga gn gc) {S with d:=RD},.int .i64 RE]) (by unfold zag;simp [results,Tryz.results18,go_sem,s0,s1,s2,s3,s4,s5,s6,s7,s8,s9,s10]) rfl ?_
    rw [HSY.out,HSE.out];exact ⟨_,_,_,_,_,_,rfl,Z5⟩
end Sto
end Go.Proofs.YtgmppfpllogdcaaGreat

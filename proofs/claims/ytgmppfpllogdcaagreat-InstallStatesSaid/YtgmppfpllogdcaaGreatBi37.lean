/-
  Parts of what the laws of this seat stand on:StoAbox.
-/
import Derived.Test.YtgmppfpllogdcaaGreatBi1
import Derived.Deep.Onto
import Derived.Test.YtgmppfpllogdcaaGreatBi22
set_option maxRecDepth 100000
set_option maxHeartbeats 6400000
namespace Go.Proofs.YtgmppfpllogdcaaGreat
namespace Sto
open Go.RowKit So Dsk Rts
structure Ta (w:World) (b:Nat) (fv0 gv0 fv gv:Value) (M:Obj) (S:St) (W:World):Prop where
 d:W.heap[b]?=some (.cells #[fv,.int .i64 S.d.c,.bool S.d.a,.int .i64 S.d.l,.bool S.d.x,.int .i64 S.v,gv,.int .i64 S.x,.int .i64 S.s,.int .i64 S.z,.int .u32 S.c] 31 (0,0))
 e:W.heap[b+1]?=some M
 q:W.heap[b+2]?=some (.cells #[.slice none 0 0,.int .i64 0,.bool false,.int .i64 0,.bool false,.int .i64 0,.slice none 0 0,.int .i64 0,.int .i64 0,.int .i64 0,.int .u32 0] 31 (0,0))
 f:IsL FL W fv S.d.f
 g:IsL Rts.SL W gv S.g
 s:∀t,b<=t->t<=b+2->Sep fv t/\Sep gv t
 k:∀t,t<b->Sep fv0 t->Sep gv0 t->Sep fv t/\Sep gv t
 w:Below b w W
section
variable {w W W':World} {b:Nat} {fv0 gv0 fv gv fv' gv':Value} {M:Obj} {S T:St} {D':Dp.Dk}
theorem Ta.lt (h:Ta w b fv0 gv0 fv gv M S W):b+2<W.heap.size:=(Array.getElem?_eq_some_iff.1 h.q).1
theorem Ta.keep (h:Ta w b fv0 gv0 fv gv M S W) (k:Below W.heap.size W W'):Ta w b fv0 gv0 fv gv M S W':=
 ⟨hkeep h.d k,hkeep h.e k,hkeep h.q k,h.f.keep k,h.g.keep k,h.s,h.k,h.w.trans (k.mono (by have:=h.lt;omega))⟩
theorem Ta.new {B:Array Value} {U:TypeId} {W0:World} (hf:IsL FL w fv S.d.f) (hg:IsL Rts.SL w gv S.g) (e:((w.alloc (.cells #[fv,.int .i64 S.d.c,.bool S.d.a,.int .i64 S.d.l,.bool S.d.x,.int .i64 S.v,gv,.int .i64 S.x,.int .i64 S.s,.int .i64 S.z,.int .u32 S.c] 31)).alloc (.cells B U)).alloc (.cells #[.slice none 0 0,.int .i64 0,.bool false,.int .i64 0,.bool false,.int .i64 0,.slice none 0 0,.int .i64 0,.int .i64 0,.int .i64 0,.int .u32 0] 31)=W0):Ta w w.heap.size fv gv fv gv  (.cells B U) S W0:=by
 obtain ⟨g0,g1,g2,gb,gs⟩:=zfh w #[fv,.int .i64 S.d.c,.bool S.d.a,.int .i64 S.d.l,.bool S.d.x,.int .i64 S.v,gv,.int .i64 S.x,.int .i64 S.s,.int .i64 S.z,.int .u32 S.c] B #[.slice none 0 0,.int .i64 0,.bool false,.int .i64 0,.bool false,.int .i64 0,.slice none 0 0,.int .i64 0,.int .i64 0,.int .i64 0,.int .u32 0] 31 U 31;rw [e] at g0 g1 g2 gb gs;exact ⟨g0,g1,g2,hf.keep gb,hg.keep gb,fun t ht _=>⟨IsL.sep_new hf ht,IsL.sep_new hg ht⟩,fun _ _ a c=>⟨a,c⟩,gb⟩
theorem Ta.disk (h:Ta w b fv0 gv0 fv gv M S W) (hf:IsL FL W fv' D'.f) (hs:∀t,b<=t->t<=b+2->Sep fv' t) (hk:∀t,t<b->Sep fv0 t->Sep gv0 t->Sep fv' t):
 ∃Z,((((W.setCell ⟨b,0,none⟩ fv').setCell ⟨b,1,none⟩ (.int .i64 D'.c)).setCell ⟨b,2,none⟩ (.bool D'.a)).setCell ⟨b,3,none⟩ (.int .i64 D'.l)).setCell ⟨b,4,none⟩ (.bool D'.x)=Z/\Ta w b fv0 gv0 fv' gv M {S with d:=D'} Z:=
 ⟨_,rfl,⟨heap_setCell_same _ _ 4 _ _ _ (heap_setCell_same _ _ 3 _ _ _ (heap_setCell_same _ _ 2 _ _ _ (heap_setCell_same _ _ 1 _ _ _ (heap_setCell_same _ _ 0 _ _ _ h.d)))),
  zaw (by omega) h.e _ _ _ _ _,zaw (by omega) h.q _ _ _ _ _,IsL.set5 hf (hs b (Nat.le_refl _) (by omega)) _ _ _ _ _,IsL.set5 h.g (h.s b (Nat.le_refl _) (by omega)).2 _ _ _ _ _,fun t h1 h2=>⟨hs t h1 h2,(h.s t h1 h2).2⟩,fun t ht a c=>⟨hk t ht a c,(h.k t ht a c).2⟩,zai h.w (Nat.le_refl _) _ _ _ _ _⟩⟩
theorem Ta.fin {fa ga:Option Addr} {fn fc gn gc:Nat} (h:Ta w w.heap.size fv0 gv0 (.slice fa fn fc) (.slice ga gn gc) M S W):
 ∃Z,((((((((((W.setCell ⟨w.heap.size+2,0,none⟩ (.slice fa fn fc)).setCell ⟨w.heap.size+2,1,none⟩ (.int .i64 S.d.c)).setCell ⟨w.heap.size+2,2,none⟩ (.bool S.d.a)).setCell ⟨w.heap.size+2,3,none⟩ (.int .i64 S.d.l)).setCell ⟨w.heap.size+2,4,none⟩ (.bool S.d.x)).setCell ⟨w.heap.size+2,5,none⟩ (.int .i64 S.v)).setCell ⟨w.heap.size+2,6,none⟩ (.slice ga gn gc)).setCell ⟨w.heap.size+2,7,none⟩ (.int .i64 S.x)).setCell ⟨w.heap.size+2,8,none⟩ (.int .i64 S.s)).setCell ⟨w.heap.size+2,9,none⟩ (.int .i64 S.z)).setCell ⟨w.heap.size+2,10,none⟩ (.int .u32 S.c)=Z/\
  Z.heap[w.heap.size+2]?=some (.cells #[.slice fa fn fc,.int .i64 S.d.c,.bool S.d.a,.int .i64 S.d.l,.bool S.d.x,.int .i64 S.v,.slice ga gn gc,.int .i64 S.x,.int .i64 S.s,.int .i64 S.z,.int .u32 S.c] 31 (0,0))/\StS w fv0 gv0 S (.slice fa fn fc) (.slice ga gn gc) Z:=by
 obtain ⟨Z,h1,h2,_,h4,h5,h6⟩:=zdU h.q (.slice fa fn fc) (.int .i64 S.d.c) (.bool S.d.a) (.int .i64 S.d.l) (.bool S.d.x) (.int .i64 S.v) (.slice ga gn gc) (.int .i64 S.x) (.int .i64 S.s) (.int .i64 S.z) (.int .u32 S.c);exact ⟨Z,h1,h2,h4 _ _ h.f (h.s _ (by omega) (by omega)).1,h5 _ _ h.g (h.s _ (by omega) (by omega)).2,h.k,h6 _ _ (by omega) h.w⟩
theorem Ta.roll (h:Ta w b fv0 gv0 fv gv M S W) (k:StS W fv gv T fv' gv' W') {W2:World} (a:Below W'.heap.size W' W2):
 ∃Z,((((((((((W2.setCell ⟨b,0,none⟩ fv').setCell ⟨b,1,none⟩ (.int .i64 T.d.c)).setCell ⟨b,2,none⟩ (.bool T.d.a)).setCell ⟨b,3,none⟩ (.int .i64 T.d.l)).setCell ⟨b,4,none⟩ (.bool T.d.x)).setCell ⟨b,5,none⟩ (.int .i64 T.v)).setCell ⟨b,6,none⟩ gv').setCell ⟨b,7,none⟩ (.int .i64 T.x)).setCell ⟨b,8,none⟩ (.int .i64 T.s)).setCell ⟨b,9,none⟩ (.int .i64 T.z)).setCell ⟨b,10,none⟩ (.int .u32 T.c)=Z/\Ta w b fv0 gv0 fv' gv' M T Z:=by
 have h1:=h.lt;have hk:=k.w.trans (a.mono k.w.size);obtain ⟨Z,e1,e2,e3,e4,e5,e6⟩:=zdU (hkeep h.d hk) fv' (.int .i64 T.d.c) (.bool T.d.a) (.int .i64 T.d.l) (.bool T.d.x) (.int .i64 T.v) gv' (.int .i64 T.x) (.int .i64 T.s) (.int .i64 T.z) (.int .u32 T.c);have sp:∀t,b<=t->t<=b+2->Sep fv' t/\Sep gv' t:=fun t ht h2=>k.s t (by omega) (h.s t ht h2).1 (h.s t ht h2).2;exact ⟨Z,e1,e2,e3 _ (by omega) _ (hkeep h.e hk),e3 _ (by omega) _ (hkeep h.q hk),e4 _ _ (k.f.keep a) (sp b (Nat.le_refl _) (by omega)).1,e5 _ _ (k.g.keep a) (sp b (Nat.le_refl _) (by omega)).2,sp,fun t ht x y=>k.s t (by omega) (h.k t ht x y).1 (h.k t ht x y).2,e6 _ _ (Nat.le_refl _) (h.w.trans (hk.mono (by omega)))⟩
theorem Ta.gone {fa ga:Option Addr} {fn fc gn gc:Nat} (h:Ta w w.heap.size fv0 gv0 fv gv M S W) (k:StS W fv gv T (.slice fa fn fc) (.slice ga gn gc) W') {W2:World} (a:Below W'.heap.size W' W2):
 ∃Z,((((((((((W2.setCell ⟨w.heap.size+2,0,none⟩ (.slice fa fn fc)).setCell ⟨w.heap.size+2,1,none⟩ (.int .i64 T.d.c)).setCell ⟨w.heap.size+2,2,none⟩ (.bool T.d.a)).setCell ⟨w.heap.size+2,3,none⟩ (.int .i64 T.d.l)).setCell ⟨w.heap.size+2,4,none⟩ (.bool T.d.x)).setCell ⟨w.heap.size+2,5,none⟩ (.int .i64 T.v)).setCell ⟨w.heap.size+2,6,none⟩ (.slice ga gn gc)).setCell ⟨w.heap.size+2,7,none⟩ (.int .i64 T.x)).setCell ⟨w.heap.size+2,8,none⟩ (.int .i64 T.s)).setCell ⟨w.heap.size+2,9,none⟩ (.int .i64 T.z)).setCell ⟨w.heap.size+2,10,none⟩ (.int .u32 T.c)=Z/\
  Z.heap[w.heap.size+2]?=some (.cells #[.slice fa fn fc,.int .i64 T.d.c,.bool T.d.a,.int .i64 T.d.l,.bool T.d.x,.int .i64 T.v,.slice ga gn gc,.int .i64 T.x,.int .i64 T.s,.int .i64 T.z,.int .u32 T.c] 31 (0,0))/\StS w fv0 gv0 T (.slice fa fn fc) (.slice ga gn gc) Z:=by
 have h1:=h.lt;have hk:=k.w.trans (a.mono k.w.size);obtain ⟨Z,e1,e2,_,e4,e5,e6⟩:=zdU (hkeep h.q hk) (.slice fa fn fc) (.int .i64 T.d.c) (.bool T.d.a) (.int .i64 T.d.l) (.bool T.d.x) (.int .i64 T.v) (.slice ga gn gc) (.int .i64 T.x) (.int .i64 T.s) (.int .i64 T.z) (.int .u32 T.c);have sp:∀t,w.heap.size<=t->t<=w.heap.size+2->Sep (.slice fa fn fc) t/\Sep (.slice ga gn gc) t:=fun t ht h2=>k.s t (by omega) (h.s t ht h2).1 (h.s t ht h2).2;exact ⟨Z,e1,e2,e4 _ _ (k.f.keep a) (sp _ (by omega) (by omega)).1,e5 _ _ (k.g.keep a) (sp _ (by omega) (by omega)).2,fun t ht x y=>k.s t (by omega) (h.k t ht x y).1 (h.k t ht x y).2,e6 _ _ (by omega) (h.w.trans (hk.mono (by omega)))⟩
end
def TaR (w:World) (fv0 gv0:Value) (M:Obj) (S:St) (W:World):Prop:=∃a n c a' n' c',Ta w w.heap.size fv0 gv0 (.slice a n c) (.slice a' n' c') M S W
structure Td (w:World) (b:Nat) (fv0 gv0 fv gv:Value) (M:Obj) (S:St) (D:Dp.Dk) (t:Nat) (v:Value) (W:World):Prop where
 y:Ta w b fv0 gv0 fv gv M S W
 d:W.heap[t]?=some (.cells #[v,.int .i64 D.c,.bool D.a,.int .i64 D.l,.bool D.x] 27 (0,0))
 f:IsL FL W v D.f
 s:∀j,b<=j->j<=b+2->Sep v j
 k:∀j,j<b->Sep fv0 j->Sep gv0 j->Sep v j
def TdR (w:World) (b:Nat) (fv0 gv0 fv gv:Value) (M:Obj) (S:St) (D:Dp.Dk) (t:Nat) (W:World):Prop:=∃a n c,Td w b fv0 gv0 fv gv M S D t (.slice a n c) W
section
variable {w w0 Wc W5:World} {b t:Nat} {fv0 gv0 fv gv:Value} {M:Obj} {S:St} {D:Dp.Dk} {a:Option Addr} {n c:Nat}
theorem TdR.A (T:Ta w b fv0 gv0 fv gv M S w0) (q:Below w0.heap.size w0 Wc) (k:DkS Wc fv D (.slice a n c) W5):TdR w b fv0 gv0 fv gv M S D W5.heap.size (W5.alloc (.cells #[.slice a n c,.int .i64 D.c,.bool D.a,.int .i64 D.l,.bool D.x] 27)):=by
 have h1:=T.lt;have h2:=q.size;have al:=(Below.refl W5.heap.size W5).alloc (Nat.le_refl _) (.cells #[.slice a n c,.int .i64 D.c,.bool D.a,.int .i64 D.l,.bool D.x] 27);exact ⟨a,n,c,(T.keep (q.trans (k.w.mono h2))).keep al,heap_alloc_new W5 _,k.f.keep al,fun j hj h=>k.s _ (by omega) (T.s j hj h).1,fun j hj h h'=>k.s _ (by omega) (T.k j hj h h').1⟩
theorem TdR.B (T:Ta w b fv0 gv0 fv gv M S w0) (q:Below w0.heap.size w0 Wc) (k:DkS Wc fv D (.slice a n c) W5) {x0 x1 x2 x3 x4:Value} (hz:W5.heap[t]?=some (.cells #[x0,x1,x2,x3,x4] 27 (0,0))) (h4:w0.heap.size<=t) (h5:t<Wc.heap.size):
 TdR w b fv0 gv0 fv gv M S D t (((((W5.setCell ⟨t,0,none⟩ (.slice a n c)).setCell ⟨t,1,none⟩ (.int .i64 D.c)).setCell ⟨t,2,none⟩ (.bool D.a)).setCell ⟨t,3,none⟩ (.int .i64 D.l)).setCell ⟨t,4,none⟩ (.bool D.x)):=by
 have h1:=T.lt;have h2:=q.size;have hs:Sep (.slice a n c) t:=k.s t h5 (IsL.sep_new T.f h4);have T5:=T.keep (q.trans (k.w.mono h2));refine ⟨a,n,c,⟨zaw (by omega) T5.d _ _ _ _ _,zaw (by omega) T5.e _ _ _ _ _,zaw (by omega) T5.q _ _ _ _ _,IsL.set5 T5.f (IsL.sep_new T.f h4) _ _ _ _ _,IsL.set5 T5.g (IsL.sep_new T.g h4) _ _ _ _ _,T5.s,T5.k,zai T5.w (by omega) _ _ _ _ _⟩,za5 hz _ _ _ _ _,IsL.set5 k.f hs _ _ _ _ _,fun j hj h=>k.s _ (by omega) (T.s j hj h).1,fun j hj h h'=>k.s _ (by omega) (T.k j hj h h').1⟩
end
theorem ze8 (W:World) (r o:Nat) (u:Value):W.grownBy (W.setCell ⟨r,o,none⟩ u) (some r):=
 ⟨rfl,rfl,rfl,by simp,fun k _ hk=>heap_setCell_other W ⟨r,o,none⟩ k u (fun e=>hk (by simp [e]))⟩
structure Tg (w:World) (b:Nat) (fv0 gv0 fv:Value) (p n c:Nat) (S:St) (W:World):Prop where
 d:W.heap[b]?=some (.cells #[fv,.int .i64 S.d.c,.bool S.d.a,.int .i64 S.d.l,.bool S.d.x,.int .i64 S.v,.slice (some ⟨p,0,none⟩) n c,.int .i64 S.x,.int .i64 S.s,.int .i64 S.z,.int .u32 S.c] 31 (0,0))
 q:W.heap[b+2]?=some (.cells #[.slice none 0 0,.int .i64 0,.bool false,.int .i64 0,.bool false,.int .i64 0,.slice none 0 0,.int .i64 0,.int .i64 0,.int .i64 0,.int .u32 0] 31 (0,0))
 f:IsL FL W fv S.d.f
 o:OwnL Rts.SL W (b+3) (.slice (some ⟨p,0,none⟩) n c) S.g
 s:(∀t,b<=t->t<=b+2->Sep fv t)/\Sep fv p
 k:∀t,t<b->Sep fv0 t->Sep gv0 t->Sep fv t
 w:Below b w W
theorem zfT (x:Int):∀(l:List Rt.Sg) (i:Nat),i<l.length->(Rts.SL.vals l).set (i*3+1) (.int .i64 x)=Rts.SL.vals (l.set i ⟨(l.getD i Rt.zero).b,x,(l.getD i Rt.zero).z⟩)
 | g::l,0,_=>rfl
 | g::l,i+1,h=>by
  have:=zfT x l i (by simpa using h);rw [show (i+1)*3+1=i*3+1+1+1+1 from by omega,List.set_cons_succ,List.getD_cons_succ,Lay.vals_cons,Lay.vals_cons, <-this]
  rfl
theorem zfS (x:Int):∀(l:List Rt.Sg) (i:Nat),i<l.length->(Rts.SL.vals l).set (i*3+2) (.int .i64 x)=Rts.SL.vals (l.set i ⟨(l.getD i Rt.zero).b,(l.getD i Rt.zero).n,x⟩)
 | g::l,0,_=>rfl
 | g::l,i+1,h=>by
  have:=zfS x l i (by simpa using h);rw [show (i+1)*3+2=i*3+2+1+1+1 from by omega,List.set_cons_succ,List.getD_cons_succ,Lay.vals_cons,Lay.vals_cons, <-this]
  rfl
section
variable {w W:World} {b p n c:Nat} {fv0 gv0 fv:Value} {S:St}
theorem Tg.lt (h:Tg w b fv0 gv0 fv p n c S W):b+3<=p/\p<W.heap.size:=h.o.lt p rfl
theorem Tg.at_ (h:Tg w b fv0 gv0 fv p n c S W) {i:Nat} (hi:i<S.g.length):W.cell? ⟨p,i*3,none⟩=some (.int .i64 (S.g.getD i Rt.zero).b)/\W.cell? ⟨p,i*3+1,none⟩=some (.int .i64 (S.g.getD i Rt.zero).n)/\W.cell? ⟨p,i*3+2,none⟩=some (.int .i64 (S.g.getD i Rt.zero).z):=by
 have q:∀j u,j<3->(Rts.SL.enc (S.g.getD i Rt.zero))[j]?=some u->W.cell? ⟨p,i*3+j,none⟩=some u:=fun j u hj hu=>by
  have hv:=Rts.SL.vals_get S.g i j hi hj;have:=World.ownsRow.cells h.o (g:=p) rfl (i*3+j) u (hv.trans hu)
  rwa [zak,Nat.zero_add] at this
 exact ⟨q 0 _ (by decide) rfl,q 1 _ (by decide) rfl,q 2 _ (by decide) rfl⟩
theorem Tg.len (h:Tg w b fv0 gv0 fv p n c S W):n=S.g.length:=by
 rcases h.o.2 with ⟨e,_⟩ | ⟨g,cap,cur,e,_⟩
 · cases e
 · injection e
theorem Tg.row (h:Tg w b fv0 gv0 fv p n c S W):W.ownsRow (b+3) Rts.SL.T Rts.SL.k (.slice (some ⟨p,0,none⟩) n c) n (Rts.SL.vals S.g):=by
 have:=h.o;unfold OwnL at this
 rwa [<-h.len] at this
theorem Tg.froz (h:Tg w b fv0 gv0 fv p n c S W) (j:Nat):W.frozen? ⟨p,j,none⟩=false:=World.ownsRow.frozenAt h.row j
theorem Tg.stored (h:Tg w b fv0 gv0 fv p n c S W) {l:List Rt.Sg} (hl:l.length=S.g.length) {j:Nat} {u:Value} (hv:(Rts.SL.vals S.g).set j u=Rts.SL.vals l):Tg w b fv0 gv0 fv p n c {S with g:=l} (W.setCell ⟨p,j,none⟩ u):=by
 have hp:=h.lt.1;refine ⟨(Below.heap_setCell _ _ _ _ (by show b≠p;omega)).trans h.d,(Below.heap_setCell _ _ _ _ (by show b+2≠p;omega)).trans h.q,IsL.setC h.f h.s.2 _ _,?_,h.s,h.k,h.w.setCell (p:=⟨p,j,none⟩) (by show b<=p;omega) _⟩;have ho:=h.row;have:=(World.ownsRow.stored ho j u).1;show World.ownsRow _ _ _ _ _ l.length _;rw [hl, <-h.len, <-hv];exact this
theorem Tg.setN (h:Tg w b fv0 gv0 fv p n c S W) {i:Nat} (hi:i<S.g.length) (x:Int):Tg w b fv0 gv0 fv p n c {S with g:=S.g.set i ⟨(S.g.getD i Rt.zero).b,x,(S.g.getD i Rt.zero).z⟩} (W.setCell ⟨p,i*3+1,none⟩ (.int .i64 x)):=
 h.stored (List.length_set ..) (zfT x S.g i hi)
theorem Tg.setZ (h:Tg w b fv0 gv0 fv p n c S W) {i:Nat} (hi:i<S.g.length) (x:Int):Tg w b fv0 gv0 fv p n c {S with g:=S.g.set i ⟨(S.g.getD i Rt.zero).b,(S.g.getD i Rt.zero).n,x⟩} (W.setCell ⟨p,i*3+2,none⟩ (.int .i64 x)):=
 h.stored (List.length_set ..) (zfS x S.g i hi)
theorem Tg.next (h:Tg w b fv0 gv0 fv p n c S W) (x:Int):Tg w b fv0 gv0 fv p n c {S with x:=x} (W.setCell ⟨b,7,none⟩ (.int .i64 x)):=
 ⟨heap_setCell_same _ _ 7 _ _ _ h.d,(Below.heap_setCell _ _ _ _ (fun e=>by have e:b+2=b:=e;omega)).trans h.q,IsL.setC h.f (h.s.1 b (Nat.le_refl _) (by omega)) _ _,World.ownsRow.kept h.o (row:=some b) (ze8 W b 7 _) (by
  rcases hb:(Value.slice (some (⟨p,0,none⟩:Addr)) n c).ownBlock with _ | k
  · exact .inl rfl
  · have:=h.lt.1
    have e:p=k:=by simpa [Value.ownBlock] using hb
    exact .inr (fun e2=>by injection e2 with e2;omega)),h.s,h.k,h.w.setCell (p:=⟨b,7,none⟩) (Nat.le_refl _) _⟩
theorem Tg.drew (h:Tg w b fv0 gv0 fv p n c S W):Tg w b fv0 gv0 fv p n c S W.drew:=⟨h.d,h.q,h.f.keep (Below.refl _ _).drew,h.o.keep (Below.refl _ _).drew,h.s,h.k,h.w.drew⟩
theorem Tg.fin {fa:Option Addr} {fn fc:Nat} (h:Tg w w.heap.size fv0 gv0 (.slice fa fn fc) p n c S W) (hm:S.g.length<=maxLen) (hb:∀g∈S.g,Rts.SL.ok g):
 ∃Z,((((((((((W.setCell ⟨w.heap.size+2,0,none⟩ (.slice fa fn fc)).setCell ⟨w.heap.size+2,1,none⟩ (.int .i64 S.d.c)).setCell ⟨w.heap.size+2,2,none⟩ (.bool S.d.a)).setCell ⟨w.heap.size+2,3,none⟩ (.int .i64 S.d.l)).setCell ⟨w.heap.size+2,4,none⟩ (.bool S.d.x)).setCell ⟨w.heap.size+2,5,none⟩ (.int .i64 S.v)).setCell ⟨w.heap.size+2,6,none⟩ (.slice (some ⟨p,0,none⟩) n c)).setCell ⟨w.heap.size+2,7,none⟩ (.int .i64 S.x)).setCell ⟨w.heap.size+2,8,none⟩ (.int .i64 S.s)).setCell ⟨w.heap.size+2,9,none⟩ (.int .i64 S.z)).setCell ⟨w.heap.size+2,10,none⟩ (.int .u32 S.c)=Z/\
  Z.heap[w.heap.size+2]?=some (.cells #[.slice fa fn fc,.int .i64 S.d.c,.bool S.d.a,.int .i64 S.d.l,.bool S.d.x,.int .i64 S.v,.slice (some ⟨p,0,none⟩) n c,.int .i64 S.x,.int .i64 S.s,.int .i64 S.z,.int .u32 S.c] 31 (0,0))/\StS w fv0 gv0 S (.slice fa fn fc) (.slice (some ⟨p,0,none⟩) n c) Z:=by
 obtain ⟨Z,h1,h2,_,h4,h5,h6⟩:=zdU h.q (.slice fa fn fc) (.int .i64 S.d.c) (.bool S.d.a) (.int .i64 S.d.l) (.bool S.d.x) (.int .i64 S.v) (.slice (some ⟨p,0,none⟩) n c) (.int .i64 S.x) (.int .i64 S.s) (.int .i64 S.z) (.int .u32 S.c);have hp:=h.lt.1;exact ⟨Z,h1,h2,h4 _ _ h.f (h.s.1 _ (by omega) (by omega)),h5 _ _ (h.o.is hm hb) (zcP h.o (by omega)),fun t ht x y=>⟨h.k t ht x y,zcP h.o (by omega)⟩,h6 _ _ (by omega) h.w⟩
theorem Ta.own {gv:Value} {M:Obj} {W4:World} (h:Ta w b fv0 gv0 fv gv M S W) (k:Below W.heap.size W W4) (ho:OwnL Rts.SL W4 W.heap.size (.slice (some ⟨p,0,none⟩) n c) S.g):Tg w b fv0 gv0 fv p n c S (W4.setCell ⟨b,6,none⟩ (.slice (some ⟨p,0,none⟩) n c)):=by
 have h1:=h.lt;have hp:=(ho.lt p rfl).1;have h4:=h.keep k;refine ⟨heap_setCell_same _ _ 6 _ _ _ h4.d,(Below.heap_setCell _ _ _ _ (fun e=>by have e:b+2=b:=e;omega)).trans h4.q,IsL.setC h4.f (h.s b (Nat.le_refl _) (by omega)).1 _ _,?_,⟨fun t a c=>(h.s t a c).1,IsL.sep_new h.f hp⟩,fun t ht x y=>(h.k t ht x y).1,h4.w.setCell (p:=⟨b,6,none⟩) (Nat.le_refl _) _⟩;have o2:OwnL Rts.SL W4 (b+3) (.slice (some ⟨p,0,none⟩) n c) S.g:=World.ownsRow.mono ho (by omega);refine World.ownsRow.kept o2 (row:=some b) (ze8 W4 b 6 _) (.inr (fun e2=>by simp [Value.ownBlock] at e2;omega))
end
end Sto
end Go.Proofs.YtgmppfpllogdcaaGreat

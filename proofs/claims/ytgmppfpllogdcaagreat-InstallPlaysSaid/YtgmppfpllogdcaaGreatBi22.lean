/-
  Parts of what the laws of this seat stand on:StoBox,Apart,StoGrow,Mem,StoTk.
-/
import Derived.Test.YtgmppfpllogdcaaGreatBi1
import Derived.Deep.Heap
import Derived.IntWalk
import Derived.Lib.BufferOwn
import Derived.Shelf.RegionOpenPlain
import Derived.Test.YtgmppfpllogdcaaGreatBi12
import Derived.Test.YtgmppfpllogdcaaGreatBi20
import Derived.Test.YtgmppfpllogdcaaGreatBi21
import Derived.Test.YtgmppfpllogdcaaGreatBi3
import Derived.Test.YtgmppfpllogdcaaGreatBi7
set_option maxRecDepth 100000
set_option maxHeartbeats 6400000
namespace Go.Proofs.YtgmppfpllogdcaaGreat
namespace Sto
open Go.RowKit So Dsk Rts
structure Ty (w:World) (b x:Nat) (fv0 gv0 fv gv fx gx:Value) (S:St) (ver:Int) (l:List Rt.Sg) (t:Nat) (v:Value) (D:Dp.Dk) (W:World):Prop where
 y:Tx w b x fv0 gv0 fv gv fx gx S ver l W
 lt:x<t
 d:W.heap[t]?=some (.cells #[v,.int .i64 D.c,.bool D.a,.int .i64 D.l,.bool D.x] 27 (0,0))
 f:IsL FL W v D.f
 s:Sep v b/\Sep v (b+1)/\Sep v x/\Sep v t
 o:Sep fv t/\Sep gv t/\Sep gx t
 k:∀j,j<b->Sep fv0 j->Sep gv0 j->Sep v j
section
variable {w w0 W Wc W5:World} {b x t:Nat} {fv0 gv0 fv gv fx gx v v':Value} {S:St} {ver:Int} {l:List Rt.Sg} {D D':Dp.Dk}
theorem Tx.off5 (h:Tx w b x fv0 gv0 fv gv fx gx S ver l W) (ht:x<t) (s1:Sep fv t) (s2:Sep gv t) (s3:Sep gx t) (y0 y1 y2 y3 y4:Value):Tx w b x fv0 gv0 fv gv fx gx S ver l (set5 W t y0 y1 y2 y3 y4):=by
 have h1:=h.lt
 exact ⟨⟨zaw (by omega) h.t.d _ _ _ _ _,zaw (by omega) h.t.r _ _ _ _ _,IsL.set5 h.t.f s1 _ _ _ _ _,IsL.set5 h.t.g s2 _ _ _ _ _,h.t.s,h.t.k,zai h.t.w (by omega) _ _ _ _ _⟩,
  zaw (by omega) h.o _ _ _ _ _,IsL.set5 h.g s3 _ _ _ _ _,h.lt,h.s,h.k⟩
theorem Ty.keep (h:Ty w b x fv0 gv0 fv gv fx gx S ver l t v D W) (k:Below W.heap.size W W5):Ty w b x fv0 gv0 fv gv fx gx S ver l t v D W5:=⟨h.y.keep k,h.lt,hkeep h.d k,h.f.keep k,h.s,h.o,h.k⟩
theorem Ty.A (T:Tx w b x fv0 gv0 fv gv fx gx S ver l w0) (q:Below w0.heap.size w0 Wc) (k:DkS Wc fv D v W5):Ty w b x fv0 gv0 fv gv fx gx S ver l W5.heap.size v D (W5.alloc (.cells #[v,.int .i64 D.c,.bool D.a,.int .i64 D.l,.bool D.x] 27)):=by
 have h1:=T.t.lt;have hx:x<w0.heap.size:=(Array.getElem?_eq_some_iff.1 T.o).1;have h2:=q.size;have h3:=k.w.size;have al:=(Below.refl W5.heap.size W5).alloc (Nat.le_refl _) (.cells #[v,.int .i64 D.c,.bool D.a,.int .i64 D.l,.bool D.x] 27);have T5:=T.keep (q.trans (k.w.mono h2));exact ⟨T5.keep al,by omega,heap_alloc_new W5 _,k.f.keep al,⟨k.s _ (by omega) T.t.s.1,k.s _ (by omega) T.t.s.2.1,k.s _ (by omega) T.s.1,IsL.sep_new k.f (Nat.le_refl _)⟩,⟨IsL.sep_new T5.t.f (Nat.le_refl _),IsL.sep_new T5.t.g (Nat.le_refl _),IsL.sep_new T5.g (Nat.le_refl _)⟩,fun j hj h h'=>k.s _ (by omega) (T.t.k j hj h h').1⟩
theorem Ty.B (T:Tx w b x fv0 gv0 fv gv fx gx S ver l w0) (q:Below w0.heap.size w0 Wc) (k:DkS Wc fv D v W5) {x0 x1 x2 x3 x4:Value} (hz:W5.heap[t]?=some (.cells #[x0,x1,x2,x3,x4] 27 (0,0))) (h4:w0.heap.size<=t) (h5:t<Wc.heap.size):
 Ty w b x fv0 gv0 fv gv fx gx S ver l t v D (((((W5.setCell ⟨t,0,none⟩ v).setCell ⟨t,1,none⟩ (.int .i64 D.c)).setCell ⟨t,2,none⟩ (.bool D.a)).setCell ⟨t,3,none⟩ (.int .i64 D.l)).setCell ⟨t,4,none⟩ (.bool D.x)):=by
 have h1:=T.t.lt;have hx:x<w0.heap.size:=(Array.getElem?_eq_some_iff.1 T.o).1;have h2:=q.size;have hs:Sep v t:=k.s t h5 (IsL.sep_new T.t.f h4);have T5:=T.keep (q.trans (k.w.mono h2));exact ⟨T5.off5 (by omega) (IsL.sep_new T.t.f h4) (IsL.sep_new T.t.g h4) (IsL.sep_new T.g h4) _ _ _ _ _,by omega,za5 hz _ _ _ _ _,IsL.set5 k.f hs _ _ _ _ _,⟨k.s _ (by omega) T.t.s.1,k.s _ (by omega) T.t.s.2.1,k.s _ (by omega) T.s.1,hs⟩,⟨IsL.sep_new T.t.f h4,IsL.sep_new T.t.g h4,IsL.sep_new T.g h4⟩,fun j hj h h'=>k.s _ (by omega) (T.t.k j hj h h').1⟩
theorem Ty.lay (h:Ty w b x fv0 gv0 fv gv fx gx S ver l t v D W) (k:DkS W v D' v' W5):
 ∃Z,((((W5.setCell ⟨t,0,none⟩ v').setCell ⟨t,1,none⟩ (.int .i64 D'.c)).setCell ⟨t,2,none⟩ (.bool D'.a)).setCell ⟨t,3,none⟩ (.int .i64 D'.l)).setCell ⟨t,4,none⟩ (.bool D'.x)=Z/\Ty w b x fv0 gv0 fv gv fx gx S ver l t v' D' Z:=by
 have ht:t<W.heap.size:=(Array.getElem?_eq_some_iff.1 h.d).1;have h1:=h.y.lt;have h2:=h.lt;have h5:=h.y.keep k.w;have st:=k.s t ht h.s.2.2.2;exact ⟨_,rfl,h5.off5 h.lt h.o.1 h.o.2.1 h.o.2.2 _ _ _ _ _,h.lt,za5 (hkeep h.d k.w) _ _ _ _ _,IsL.set5 k.f st _ _ _ _ _,⟨k.s _ (by omega) h.s.1,k.s _ (by omega) h.s.2.1,k.s _ (by omega) h.s.2.2.1,st⟩,h.o,fun j hj a c=>k.s _ (by omega) (h.k j hj a c)⟩
theorem Ty.toB (h:Ty w b x fv0 gv0 fv gv fx gx S ver l t v D W):
 ∃Z,((((W.setCell ⟨b,0,none⟩ v).setCell ⟨b,1,none⟩ (.int .i64 D.c)).setCell ⟨b,2,none⟩ (.bool D.a)).setCell ⟨b,3,none⟩ (.int .i64 D.l)).setCell ⟨b,4,none⟩ (.bool D.x)=Z/\Ts w b fv0 gv0 v gv {S with d:=D} Z:=by
 obtain ⟨Z,e1,e2,_,_⟩:=h.y.t.disk h.f ⟨h.s.1,h.s.2.1⟩ h.k;exact ⟨Z,e1,e2⟩
theorem Ty.toX (h:Ty w b x fv0 gv0 fv gv fx gx S ver l t v D W):
 ∃Z,((((W.setCell ⟨x,0,none⟩ v).setCell ⟨x,1,none⟩ (.int .i64 D.c)).setCell ⟨x,2,none⟩ (.bool D.a)).setCell ⟨x,3,none⟩ (.int .i64 D.l)).setCell ⟨x,4,none⟩ (.bool D.x)=Z/\
  Z.heap[x]?=some (.cells #[v,.int .i64 D.c,.bool D.a,.int .i64 D.l,.bool D.x,.int .i64 ver,gx,.int .i64 S.x,.int .i64 S.s,.int .i64 S.z,.int .u32 S.c] 31 (0,0))/\
  Z.heap[b+1]?=some (.cells #[.slice none 0 0,.int .i64 0,.bool false,.int .i64 0,.bool false,.int .i64 0,.slice none 0 0,.int .i64 0,.int .i64 0,.int .i64 0,.int .u32 0] 31 (0,0))/\IsL FL Z v D.f/\IsL Rts.SL Z gx l/\Below b w Z:=by
 have h1:=h.y.lt;exact ⟨_,rfl,heap_setCell_same _ _ 4 _ _ _ (heap_setCell_same _ _ 3 _ _ _ (heap_setCell_same _ _ 2 _ _ _ (heap_setCell_same _ _ 1 _ _ _ (heap_setCell_same _ _ 0 _ _ _ h.y.o)))),zaw (by omega) h.y.t.r _ _ _ _ _,IsL.set5 h.f h.s.2.2.1 _ _ _ _ _,IsL.set5 h.y.g h.y.s.2.2.2.2 _ _ _ _ _,zai h.y.t.w (by omega) _ _ _ _ _⟩
theorem Ty.fin {Z:World} {a:Option Addr} {n c:Nat} {a':Option Addr} {n' c':Nat} (h:Ty w w.heap.size x fv0 gv0 fv gv fx (.slice a' n' c') S ver l t (.slice a n c) D W)
 (r:Z.heap[w.heap.size+1]?=some (.cells #[.slice none 0 0,.int .i64 0,.bool false,.int .i64 0,.bool false,.int .i64 0,.slice none 0 0,.int .i64 0,.int .i64 0,.int .i64 0,.int .u32 0] 31 (0,0))) (hf:IsL FL Z (.slice a n c) D.f) (hg:IsL Rts.SL Z (.slice a' n' c') l) (hb:Below w.heap.size w Z):
 ∃Y,((((((((((Z.setCell ⟨w.heap.size+1,0,none⟩ (.slice a n c)).setCell ⟨w.heap.size+1,1,none⟩ (.int .i64 D.c)).setCell ⟨w.heap.size+1,2,none⟩ (.bool D.a)).setCell ⟨w.heap.size+1,3,none⟩ (.int .i64 D.l)).setCell ⟨w.heap.size+1,4,none⟩ (.bool D.x)).setCell ⟨w.heap.size+1,5,none⟩ (.int .i64 ver)).setCell ⟨w.heap.size+1,6,none⟩ (.slice a' n' c')).setCell ⟨w.heap.size+1,7,none⟩ (.int .i64 S.x)).setCell ⟨w.heap.size+1,8,none⟩ (.int .i64 S.s)).setCell ⟨w.heap.size+1,9,none⟩ (.int .i64 S.z)).setCell ⟨w.heap.size+1,10,none⟩ (.int .u32 S.c)=Y/\
  Y.heap[w.heap.size+1]?=some (.cells #[.slice a n c,.int .i64 D.c,.bool D.a,.int .i64 D.l,.bool D.x,.int .i64 ver,.slice a' n' c',.int .i64 S.x,.int .i64 S.s,.int .i64 S.z,.int .u32 S.c] 31 (0,0))/\StS w fv0 gv0 {S with d:=D,v:=ver,g:=l} (.slice a n c) (.slice a' n' c') Y:=by
 obtain ⟨Y,h1,h2,_,h4,h5,h6⟩:=zdU r (.slice a n c) (.int .i64 D.c) (.bool D.a) (.int .i64 D.l) (.bool D.x) (.int .i64 ver) (.slice a' n' c') (.int .i64 S.x) (.int .i64 S.s) (.int .i64 S.z) (.int .u32 S.c);exact ⟨Y,h1,h2,h4 _ _ hf h.s.2.1,h5 _ _ hg h.y.s.2.2.2.1,fun j hj a c=>⟨h.k j hj a c,h.y.k j hj a c⟩,h6 _ _ (Nat.le_succ _) hb⟩
end
def TyR (w:World) (b x:Nat) (fv0 gv0 fv gv fx gx:Value) (S:St) (ver:Int) (l:List Rt.Sg) (t:Nat) (D:Dp.Dk) (W:World):Prop:=∃a n c,Ty w b x fv0 gv0 fv gv fx gx S ver l t (.slice a n c) D W
section
variable {w w0 Wc W5:World} {b x t:Nat} {fv0 gv0 fv gv fx gx:Value} {S:St} {ver:Int} {l:List Rt.Sg} {D:Dp.Dk} {a:Option Addr} {n c:Nat}
theorem TyR.A (T:Tx w b x fv0 gv0 fv gv fx gx S ver l w0) (q:Below w0.heap.size w0 Wc) (k:DkS Wc fv D (.slice a n c) W5):TyR w b x fv0 gv0 fv gv fx gx S ver l W5.heap.size D (W5.alloc (.cells #[.slice a n c,.int .i64 D.c,.bool D.a,.int .i64 D.l,.bool D.x] 27)):=⟨a,n,c,Ty.A T q k⟩
theorem TyR.B (T:Tx w b x fv0 gv0 fv gv fx gx S ver l w0) (q:Below w0.heap.size w0 Wc) (k:DkS Wc fv D (.slice a n c) W5) {x0 x1 x2 x3 x4:Value} (hz:W5.heap[t]?=some (.cells #[x0,x1,x2,x3,x4] 27 (0,0))) (h4:w0.heap.size<=t) (h5:t<Wc.heap.size):
 TyR w b x fv0 gv0 fv gv fx gx S ver l t D (((((W5.setCell ⟨t,0,none⟩ (.slice a n c)).setCell ⟨t,1,none⟩ (.int .i64 D.c)).setCell ⟨t,2,none⟩ (.bool D.a)).setCell ⟨t,3,none⟩ (.int .i64 D.l)).setCell ⟨t,4,none⟩ (.bool D.x)):=⟨a,n,c,Ty.B T q k hz h4 h5⟩
end
end Sto
section
open Go.RowKit
def Moved (w:World) (v v':Value):Prop:=v'.ownBlock=v.ownBlock\/ ∀q,v'.ownBlock=some q->w.heap.size<=q
theorem zdV {P:Program} (w:World) (base:Nat) (t ty e:TypeId) (i:TypeInfo) (z:Value) (size bytes:Nat) (ht:P.underlying t=some (.slice e)) (hi:P.info? e=some i) (hz:i.zero=some z)
 (hsize:i.size=size) (hby:i.bytes=bytes) (hzs:z.cells.size=size) (hsz:0<size)
 (v:Value) (n:Nat) (xs:List Value) (hown:w.ownsRow base e size v n xs)
 (a:Addr) (m c:Nat) (news:List Value) (hl:news.length=m*size) (hnews:∀j u,news[j]?=some u->w.cell? (a.add j)=some u) (h1:∀u∈news,u.oneCell'=true) (hm:0<m)
 (h63:n+m<=maxLen) (hbytes:(n+m)*bytes<=140737488355328) (hbase:base<=w.heap.size):
 ∃v' w',(Builtin.append_ #[t,t] ty #[v,.slice (some a) m c]).run P w= .ok v' w'/\w'.ownsRow base e size v' (n+m) (xs++news)/\w.grownBy w' v.ownBlock/\Moved w v v':=by
 obtain ⟨v',w',hr,ho,hg,_⟩:=run_append_own (P:=P) w base t ty e i z size bytes ht hi hz hsize hby hzs hsz v n xs hown a m c news hl hnews h1 h63 hbytes hbase;refine ⟨v',w',hr,ho,hg,?_⟩;subst hsize
 subst hby
 have key:∀v2 w2,(Builtin.append_ #[t,t] ty #[v,.slice (some a) m c]).run P w= .ok v2 w2->v'=v2:=by
  intro v2 w2 h2;rw [hr] at h2;injection h2
 rcases hown.2 with ⟨rfl,rfl⟩ | ⟨g,cap,cur,rfl,hbg,hgg,hnc,hcm,hcs,htake⟩
 · have hr2:=run_append_nil (P:=P) w t ty e i z ht hi hz a m c news hl hnews hm (by simp only [maxLen] at h63;omega) (by have hb:=hbytes;simp only [Nat.zero_add] at hb;omega)
   rw [key _ _ hr2]
   exact .inr fun q hq=>by simp [Value.ownBlock] at hq;omega
 · by_cases hroom:n+m<=cap
   · have hfit:n*i.size+news.length<=cur.size:=by rw [hl,hcs, <-Nat.add_mul];exact Nat.mul_le_mul_right _ hroom
     rw [key _ _ (run_append_room (P:=P) w t ty e i ht hi g n cap cur hgg a m c news hl hnews h1 hroom hfit)]
     exact .inl rfl
   · have holds:∀j u,xs[j]?=some u->w.cell? ((⟨g,0,none⟩:Addr).add j)=some u:=hown.cells (g:=g) rfl
     rw [key _ _ (run_append_grow (P:=P) w t ty e i z ht hi hz ⟨g,0,none⟩ n cap xs hown.1 holds a m c news hl hnews (by omega) (by simp only [maxLen] at h63;omega) (growslice_fits (by omega) hbytes))]
     exact .inr fun q hq=>by simp [Value.ownBlock] at hq;omega
theorem zbR {P:Program} (w:World) {ops:Array Oper} {rest:List Oper} {o:Oper} {a:Act} {Q:Exit->Act->World->Prop} (hgd:o.guard=none) (s x:Operand) (t:TypeId)
 (ho:o.op= .call {callee:= .builtin .append,args:= #[s,x],argTypes:= #[t,t]})
 (base:Nat) (e:TypeId) (i:TypeInfo) (z:Value) (size bytes:Nat) (ht:P.underlying t=some (.slice e)) (hi:P.info? e=some i) (hz:i.zero=some z)
 (hsize:i.size=size) (hby:i.bytes=bytes) (hzs:z.cells.size=size) (hsz:0<size)
 (v:Value) (n:Nat) (xs:List Value) (hs:a.eval s=v) (hown:w.ownsRow base e size v n xs)
 (ad:Addr) (m c:Nat) (news:List Value) (hx:a.eval x= .slice (some ad) m c) (hl:news.length=m*size) (hnews:∀j u,news[j]?=some u->w.cell? (ad.add j)=some u) (h1:∀u∈news,u.oneCell'=true) (hm:0<m)
 (h63:n+m<=maxLen) (hbytes:(n+m)*bytes<=140737488355328) (hbase:base<=w.heap.size)
 (h:∀v' w',w'.ownsRow base e size v' (n+m) (xs++news)->w.grownBy w' v.ownBlock->Moved w v v'->wpList P ops Q rest (a.put o.dst v') w'):wpList P ops Q (o::rest) a w:=by
 obtain ⟨v',w',hr,h2,h3,h4⟩:=zdV (P:=P) w base t o.type e i z size bytes ht hi hz hsize hby hzs hsz v n xs hown ad m c news hl hnews h1 hm h63 hbytes hbase
 exact wpList_plain hgd fun _ hK=>by
  unfold Oper.wp execOp;simp only [ho,resolve,invoke,builtin,Sem.run_bind,Sem.run_pure,Result.andThen_ok,List.map_toArray,List.map_cons,List.map_nil,hs,hx,hr];exact hK _ _ (h v' w' h2 h3 h4)
end
namespace Sto
open Go.RowKit So Dsk Rts
theorem zaC (w:World) (r o:Nat) (u:Value):w.grownBy (w.setCell ⟨r,o,none⟩ u) (some r):=
 ⟨rfl,rfl,rfl,by simp,fun k _ hk=>heap_setCell_other w ⟨r,o,none⟩ k u (fun e=>hk (by simp [e]))⟩
theorem IsL.grown12 {α:Type} {Y:Lay α} {W W':World} {v:Value} {l:List α} {r:Option Nat} (h:IsL Y W v l) (g:W.grownBy W' r) (hs:∀t,r=some t->Sep v t):IsL Y W' v l:=by
 obtain ⟨a,cap,rfl,h1,h2,h3⟩:=h;refine ⟨a,cap,rfl,h1,h2,?_⟩
 rcases h3 with h3 | ⟨b,off,rfl,h4⟩
 · exact .inl h3
 · by_cases h0:l=[]
   · exact .inl h0
   · refine .inr ⟨b,off,rfl,fun j u hj=>?_⟩
     exact g.cell (h4 j u hj) (fun e=>hs b (by rw [<-e]) _ _ _ rfl (List.length_pos_iff.2 h0) rfl)
section
variable {b t:Nat} {x x':Value} {fv gv:Value} {S:St} {W W':World}
end
structure Ms (w:World) (b:Nat) (fv0 gv0:Value) (cs:List (Nat×Obj)) (fs:List (Value×List Dp.Fl)) (gs:List (Value×List Rt.Sg)) (W:World):Prop where
 c:∀p∈cs,b<=p.1/\W.heap[p.1]?=some p.2
 f:∀p∈fs,IsL FL W p.1 p.2/\(∀q∈cs,Sep p.1 q.1)/\∀j,j<b->Sep fv0 j->Sep gv0 j->Sep p.1 j
 g:∀p∈gs,IsL Rts.SL W p.1 p.2/\(∀q∈cs,Sep p.1 q.1)/\∀j,j<b->Sep fv0 j->Sep gv0 j->Sep p.1 j
 le:b<=W.heap.size
 w:Below b w W
section
variable {w W W':World} {b:Nat} {fv0 gv0:Value} {cs cs':List (Nat×Obj)} {fs fs':List (Value×List Dp.Fl)} {gs gs':List (Value×List Rt.Sg)}
theorem Ms.at_ (h:Ms w b fv0 gv0 cs fs gs W) {t:Nat} {o:Obj} (hm:(t,o)∈cs):W.heap[t]?=some o:=(h.c _ hm).2
theorem Ms.lt (h:Ms w b fv0 gv0 cs fs gs W) {t:Nat} {o:Obj} (hm:(t,o)∈cs):t<W.heap.size:=(Array.getElem?_eq_some_iff.1 (h.at_ hm)).1
theorem Ms.fl (h:Ms w b fv0 gv0 cs fs gs W) {v:Value} {l:List Dp.Fl} (hm:(v,l)∈fs):IsL FL W v l:=(h.f _ hm).1
theorem Ms.sl (h:Ms w b fv0 gv0 cs fs gs W) {v:Value} {l:List Rt.Sg} (hm:(v,l)∈gs):IsL Rts.SL W v l:=(h.g _ hm).1
theorem Ms.sub (h:Ms w b fv0 gv0 cs fs gs W) (h1:∀p∈cs',p∈cs) (h2:∀p∈fs',p∈fs) (h3:∀p∈gs',p∈gs):Ms w b fv0 gv0 cs' fs' gs' W:=
 ⟨fun p hp=>h.c p (h1 p hp),fun p hp=>⟨(h.f p (h2 p hp)).1,fun q hq=>(h.f p (h2 p hp)).2.1 q (h1 q hq),(h.f p (h2 p hp)).2.2⟩,fun p hp=>⟨(h.g p (h3 p hp)).1,fun q hq=>(h.g p (h3 p hp)).2.1 q (h1 q hq),(h.g p (h3 p hp)).2.2⟩,h.le,h.w⟩
theorem Ms.keep (h:Ms w b fv0 gv0 cs fs gs W) (k:Below W.heap.size W W'):Ms w b fv0 gv0 cs fs gs W':=
 ⟨fun p hp=>⟨(h.c p hp).1,hkeep (h.c p hp).2 k⟩,fun p hp=>⟨(h.f p hp).1.keep k,(h.f p hp).2⟩,fun p hp=>⟨(h.g p hp).1.keep k,(h.g p hp).2⟩,Nat.le_trans h.le k.size,h.w.trans (k.mono h.le)⟩
theorem Ms.call (h:Ms w b fv0 gv0 cs fs gs W) {v v':Value} {l:List Dp.Fl} {D':Dp.Dk} (hm:(v,l)∈fs) (k:DkS W v D' v' W'):Ms w b fv0 gv0 cs ((v',D'.f)::fs) gs W':=by
 have h1:=h.keep k.w;have h2:=h.f _ hm;refine ⟨h1.c,fun p hp=>?_,h1.g,h1.le,h1.w⟩
 rcases List.mem_cons.1 hp with rfl | hp
 · exact ⟨k.f,fun q hq=>k.s _ (Array.getElem?_eq_some_iff.1 (h.c q hq).2).1 (h2.2.1 q hq),fun j hj a c=>k.s _ (Nat.lt_of_lt_of_le hj h.le) (h2.2.2 j hj a c)⟩
 · exact h1.f p hp
theorem Ms.call2 (h:Ms w b fv0 gv0 cs fs gs W) {v u v' u':Value} {l:List Dp.Fl} {m:List Rt.Sg} {T:St} (hm:(v,l)∈fs) (hn:(u,m)∈gs) (k:StS W v u T v' u' W'):Ms w b fv0 gv0 cs ((v',T.d.f)::fs) ((u',T.g)::gs) W':=by
 have h1:=h.keep k.w;have h2:=h.f _ hm;have h3:=h.g _ hn;refine ⟨h1.c,fun p hp=>?_,fun p hp=>?_,h1.le,h1.w⟩
 · rcases List.mem_cons.1 hp with rfl | hp
   · exact ⟨k.f,fun q hq=>(k.s _ (Array.getElem?_eq_some_iff.1 (h.c q hq).2).1 (h2.2.1 q hq) (h3.2.1 q hq)).1,fun j hj a c=>(k.s _ (Nat.lt_of_lt_of_le hj h.le) (h2.2.2 j hj a c) (h3.2.2 j hj a c)).1⟩
   · exact h1.f p hp
 · rcases List.mem_cons.1 hp with rfl | hp
   · exact ⟨k.g,fun q hq=>(k.s _ (Array.getElem?_eq_some_iff.1 (h.c q hq).2).1 (h2.2.1 q hq) (h3.2.1 q hq)).2,fun j hj a c=>(k.s _ (Nat.lt_of_lt_of_le hj h.le) (h2.2.2 j hj a c) (h3.2.2 j hj a c)).2⟩
   · exact h1.g p hp
theorem Ms.fresh (h:Ms w b fv0 gv0 cs fs gs W) {v:Value} {l:List Rt.Sg} (k:Below W.heap.size W W') (hl:IsL Rts.SL W' v l) (hs:∀j,j<W.heap.size->Sep v j):Ms w b fv0 gv0 cs fs ((v,l)::gs) W':=by
 have h1:=h.keep k;refine ⟨h1.c,h1.f,fun p hp=>?_,h1.le,h1.w⟩
 rcases List.mem_cons.1 hp with rfl | hp
 · exact ⟨hl,fun q hq=>hs _ (Array.getElem?_eq_some_iff.1 (h.c q hq).2).1,fun j hj _ _=>hs j (Nat.lt_of_lt_of_le hj h.le)⟩
 · exact h1.g p hp
theorem Ms.alloc (h:Ms w b fv0 gv0 cs fs gs W) (A:Array Value) (T:TypeId):Ms w b fv0 gv0 ((W.heap.size,.cells A T)::cs) fs gs (W.alloc (.cells A T)):=by
 have h1:=h.keep ((Below.refl W.heap.size W).alloc (Nat.le_refl _) (.cells A T));refine ⟨fun p hp=>?_,fun p hp=>⟨(h1.f p hp).1,fun q hq=>?_,(h1.f p hp).2.2⟩,fun p hp=>⟨(h1.g p hp).1,fun q hq=>?_,(h1.g p hp).2.2⟩,h1.le,h1.w⟩
 · rcases List.mem_cons.1 hp with rfl | hp
   · exact ⟨h.le,heap_alloc_new W _⟩
   · exact h1.c p hp
 · rcases List.mem_cons.1 hq with rfl | hq
   · exact IsL.sep_new (h.f p hp).1 (Nat.le_refl _)
   · exact (h1.f p hp).2.1 q hq
 · rcases List.mem_cons.1 hq with rfl | hq
   · exact IsL.sep_new (h.g p hp).1 (Nat.le_refl _)
   · exact (h1.g p hp).2.1 q hq
theorem Ms.write (h:Ms w b fv0 gv0 cs fs gs W) {t:Nat} {o o':Obj} (hm:(t,o)∈cs) (hg:W.grownBy W' (some t)) (hn:W'.heap[t]?=some o') (hc:∀p∈cs',p=(t,o')\/(p∈cs/\p.1≠t)):Ms w b fv0 gv0 cs' fs gs W':=by
 have hb:=(h.c _ hm).1;have hsz:=hg.size
 have sep:∀{v:Value},(∀q∈cs,Sep v q.1)->∀q∈cs',Sep v q.1:=fun {v} hv q hq=>by
  rcases hc q hq with rfl | ⟨h1,_⟩
  · exact (show Sep v t from hv (t,o) hm)
  · exact hv q h1
 refine ⟨fun p hp=>?_,fun p hp=>⟨IsL.grown12 (h.f p hp).1 hg (fun j e=>by injection e with e;rw [<-e];exact (h.f p hp).2.1 _ hm),sep (h.f p hp).2.1,(h.f p hp).2.2⟩,fun p hp=>⟨IsL.grown12 (h.g p hp).1 hg (fun j e=>by injection e with e;rw [<-e];exact (h.g p hp).2.1 _ hm),sep (h.g p hp).2.1,(h.g p hp).2.2⟩,Nat.le_trans h.le hsz,h.w.grown hg h.le fun j e=>by injection e with e;rw [<-e];exact hb⟩
 rcases hc p hp with rfl | ⟨h1,h2⟩
 · exact ⟨hb,hn⟩
 · exact ⟨(h.c p h1).1,(hg.block p.1 (Array.getElem?_eq_some_iff.1 (h.c p h1).2).1 (fun e=>h2 (by injection e))).trans (h.c p h1).2⟩
theorem Ms.sts (h:Ms w w.heap.size fv0 gv0 cs fs gs W) {v u:Value} {T:St} (hm:(v,T.d.f)∈fs) (hn:(u,T.g)∈gs):StS w fv0 gv0 T v u W:=
 ⟨h.fl hm,h.sl hn,fun j hj a c=>⟨(h.f _ hm).2.2 j hj a c,(h.g _ hn).2.2 j hj a c⟩,h.w⟩
end
theorem ze9 (W:World) (t:Nat) (y0 y1 y2 y3 y4:Value):W.grownBy (((((W.setCell ⟨t,0,none⟩ y0).setCell ⟨t,1,none⟩ y1).setCell ⟨t,2,none⟩ y2).setCell ⟨t,3,none⟩ y3).setCell ⟨t,4,none⟩ y4) (some t):=
 Lib.grownBy_trans (Lib.grownBy_trans (Lib.grownBy_trans (Lib.grownBy_trans (zaC _ _ _ _) (zaC _ _ _ _)) (zaC _ _ _ _)) (zaC _ _ _ _)) (zaC _ _ _ _)
theorem zlp (W:World) (t:Nat) (y0 y1 y2 y3 y4 y5 y6 y7 y8 y9 y10:Value):W.grownBy (((((((((((W.setCell ⟨t,0,none⟩ y0).setCell ⟨t,1,none⟩ y1).setCell ⟨t,2,none⟩ y2).setCell ⟨t,3,none⟩ y3).setCell ⟨t,4,none⟩ y4).setCell ⟨t,5,none⟩ y5).setCell ⟨t,6,none⟩ y6).setCell ⟨t,7,none⟩ y7).setCell ⟨t,8,none⟩ y8).setCell ⟨t,9,none⟩ y9).setCell ⟨t,10,none⟩ y10) (some t):=
 Lib.grownBy_trans (Lib.grownBy_trans (Lib.grownBy_trans (Lib.grownBy_trans (Lib.grownBy_trans (Lib.grownBy_trans (ze9 W t y0 y1 y2 y3 y4) (zaC _ _ _ _)) (zaC _ _ _ _)) (zaC _ _ _ _)) (zaC _ _ _ _)) (zaC _ _ _ _)) (zaC _ _ _ _)
theorem zln {W:World} {k:Nat} {T:TypeId} {a0 a1 a2 a3 a4 a5 a6 a7 a8 a9 a10:Value} (hh:W.heap[k]?=some (.cells #[a0,a1,a2,a3,a4,a5,a6,a7,a8,a9,a10] T (0,0))) (y0 y1 y2 y3 y4:Value):
 (((((W.setCell ⟨k,0,none⟩ y0).setCell ⟨k,1,none⟩ y1).setCell ⟨k,2,none⟩ y2).setCell ⟨k,3,none⟩ y3).setCell ⟨k,4,none⟩ y4).heap[k]?=some (.cells #[y0,y1,y2,y3,y4,a5,a6,a7,a8,a9,a10] T (0,0)):=
 heap_setCell_same _ _ 4 _ _ _ (heap_setCell_same _ _ 3 _ _ _ (heap_setCell_same _ _ 2 _ _ _ (heap_setCell_same _ _ 1 _ _ _ (heap_setCell_same _ _ 0 _ _ _ hh))))
section
variable {w W:World} {b:Nat} {fv0 gv0:Value} {cs cs':List (Nat×Obj)} {fs:List (Value×List Dp.Fl)} {gs:List (Value×List Rt.Sg)}
theorem Ms.lay5 (h:Ms w b fv0 gv0 cs fs gs W) {t:Nat} {T:TypeId} {a0 a1 a2 a3 a4:Value} (hm:(t,Obj.cells #[a0,a1,a2,a3,a4] T)∈cs) (y0 y1 y2 y3 y4:Value) (hc:∀p∈cs',p=(t,Obj.cells #[y0,y1,y2,y3,y4] T)\/(p∈cs/\p.1≠t)):
 ∃Z,((((W.setCell ⟨t,0,none⟩ y0).setCell ⟨t,1,none⟩ y1).setCell ⟨t,2,none⟩ y2).setCell ⟨t,3,none⟩ y3).setCell ⟨t,4,none⟩ y4=Z/\Ms w b fv0 gv0 cs' fs gs Z:=
 ⟨_,rfl,h.write hm (ze9 W t y0 y1 y2 y3 y4) (za5 (h.at_ hm) y0 y1 y2 y3 y4) hc⟩
theorem Ms.layD (h:Ms w b fv0 gv0 cs fs gs W) {t:Nat} {T:TypeId} {a0 a1 a2 a3 a4 a5 a6 a7 a8 a9 a10:Value} (hm:(t,Obj.cells #[a0,a1,a2,a3,a4,a5,a6,a7,a8,a9,a10] T)∈cs) (y0 y1 y2 y3 y4:Value) (hc:∀p∈cs',p=(t,Obj.cells #[y0,y1,y2,y3,y4,a5,a6,a7,a8,a9,a10] T)\/(p∈cs/\p.1≠t)):
 ∃Z,((((W.setCell ⟨t,0,none⟩ y0).setCell ⟨t,1,none⟩ y1).setCell ⟨t,2,none⟩ y2).setCell ⟨t,3,none⟩ y3).setCell ⟨t,4,none⟩ y4=Z/\Ms w b fv0 gv0 cs' fs gs Z:=
 ⟨_,rfl,h.write hm (ze9 W t y0 y1 y2 y3 y4) (zln (h.at_ hm) y0 y1 y2 y3 y4) hc⟩
theorem Ms.lay11 (h:Ms w b fv0 gv0 cs fs gs W) {t:Nat} {T:TypeId} {a0 a1 a2 a3 a4 a5 a6 a7 a8 a9 a10:Value} (hm:(t,Obj.cells #[a0,a1,a2,a3,a4,a5,a6,a7,a8,a9,a10] T)∈cs) (y0 y1 y2 y3 y4 y5 y6 y7 y8 y9 y10:Value) (hc:∀p∈cs',p=(t,Obj.cells #[y0,y1,y2,y3,y4,y5,y6,y7,y8,y9,y10] T)\/(p∈cs/\p.1≠t)):
 ∃Z,((((((((((W.setCell ⟨t,0,none⟩ y0).setCell ⟨t,1,none⟩ y1).setCell ⟨t,2,none⟩ y2).setCell ⟨t,3,none⟩ y3).setCell ⟨t,4,none⟩ y4).setCell ⟨t,5,none⟩ y5).setCell ⟨t,6,none⟩ y6).setCell ⟨t,7,none⟩ y7).setCell ⟨t,8,none⟩ y8).setCell ⟨t,9,none⟩ y9).setCell ⟨t,10,none⟩ y10=Z/\Ms w b fv0 gv0 cs' fs gs Z:=by
 obtain ⟨Z,e1,e2,_⟩:=zdU (h.at_ hm) y0 y1 y2 y3 y4 y5 y6 y7 y8 y9 y10;exact ⟨Z,e1,h.write hm (by rw [<-e1];exact zlp W t y0 y1 y2 y3 y4 y5 y6 y7 y8 y9 y10) e2 hc⟩
theorem Ms.lay1 (h:Ms w b fv0 gv0 cs fs gs W) {t:Nat} {T:TypeId} {A:Array Value} (hm:(t,Obj.cells A T)∈cs) (i:Nat) (y:Value) (hc:∀p∈cs',p=(t,Obj.cells (A.setIfInBounds i y) T)\/(p∈cs/\p.1≠t)):
 ∃Z,W.setCell ⟨t,i,none⟩ y=Z/\Ms w b fv0 gv0 cs' fs gs Z:=
 ⟨_,rfl,h.write hm (zaC W t i y) (heap_setCell_same _ _ i _ _ _ (h.at_ hm)) hc⟩
end
end Sto
namespace So
open Dp
def tk (X R:Dk×Int):Dk×Int:=if X.2=0 then R else X
theorem zfm (D:Dk) (R:Dk×Int):tk (D,0) R=R:=if_pos rfl
theorem z0:¬((0:Int)≠0):=fun h=>h rfl
theorem zdj {X R:Dk×Int} (h:X.2≠0):tk X R=X:=if_neg h
theorem zbX {D:Dk} {l:List Fl} {own:Int} (h:own≠9):(change D l own).2≠9:=by
 unfold change
 split
 · exact fun e=>by cases e
 split
 · exact h
 split
 · exact fun e=>by cases e
 · split<;>exact fun e=>by cases e
theorem zde (D:Dk) (n:ByteArray):(create D n).2≠9:=by
 unfold create
 split
 · exact zbX (by decide)
 · split
   · exact zbX (by decide)
   · exact zbX (by decide)
theorem zeB (D:Dk) (n:ByteArray):(delete D n).2≠9:=by
 unfold delete
 split<;>exact zbX (by decide)
theorem zkd (D:Dk) (n:ByteArray):(sync D n).2≠9:=by
 unfold sync
 split<;>exact zbX (by decide)
def wo (D:Dk) (n:ByteArray):Dk×Int:=((delete D n).1,if (delete D n).2=0 then 9 else (delete D n).2)
noncomputable def zi7 (s:ByteArray) (X1:Dk×Int):Dk×Int:=
 let X2:=tk X1 (create X1.1 nn)
 let X3:=tk X2 (Dp.append X2.1 nn s)
 if X3.2=9 then wo X3.1 nn else
 let X4:=tk X3 (sync X3.1 nn)
 tk X4 (rename X4.1 nn nm)
theorem zfr {s:ByteArray} {X:Dk×Int} (h:X.2≠0) (h9:X.2≠9):zi7 s X=X:=by
 unfold zi7;dsimp only;rw [zdj h,zdj h,if_neg h9,zdj h,zdj h]
theorem zih (C:Dk) (s:ByteArray):zi7 s (C,0)=swapS C s:=by
 unfold zi7 swapS;dsimp only;rw [zfm];have h9:=zde C nn;obtain ⟨⟨D1,E1⟩,hC⟩:∃R,create C nn=R:=⟨_,rfl⟩;rw [hC] at h9 ⊢
 by_cases h1:E1=0
 · subst h1
   try dsimp only
   rw [if_neg z0,zfm]
   by_cases h2:(Dp.append D1 nn s).2=9
   · rw [if_pos h2,if_pos h2];rfl
   · rw [if_neg h2,if_neg h2]
     obtain ⟨⟨D2,E2⟩,hA⟩:∃R,Dp.append D1 nn s=R:=⟨_,rfl⟩
     rw [hA]
     by_cases h3:E2=0
     · subst h3
       try dsimp only
       rw [if_neg z0,zfm];obtain ⟨⟨D3,E3⟩,hS⟩:∃R,sync D2 nn=R:=⟨_,rfl⟩;rw [hS]
       by_cases h4:E3=0
       · subst h4
         try dsimp only
         rw [if_neg z0,zfm]
       · rw [if_pos h4,zdj h4]
     · have h3b:((D2,E2):Dk×Int).2≠0:=h3
       rw [if_pos h3,zdj h3b,zdj h3b]
 · rw [if_pos h1]
   have h1':(D1,E1).2≠0:=h1
   rw [zdj h1',if_neg h9,zdj h1',zdj h1']
noncomputable def swapP (D:Dk) (m:Qm.Mn):Dk×Int:=
 zi7 ⟨(Qm.putM m).1.toArray⟩ (if (get D.f nn).isSome=true then tk (D,(Qm.putM m).2) (delete D nn) else (D,(Qm.putM m).2))
theorem swap_p (D:Dk) (m:Qm.Mn):swap D m=swapP D m:=by
 unfold swap swapP
 by_cases hm:Qm.Ok m
 · rw [Qm.putM_yes hm]
   dsimp only
   try dsimp only
   rw [if_neg z0,zfm]
   split
   · have h9:=zeB D nn
     obtain ⟨⟨D1,E1⟩,hC⟩:∃R,delete D nn=R:=⟨_,rfl⟩
     rw [hC] at h9 ⊢
     by_cases h1:E1=0
     · subst h1
       try dsimp only
       rw [if_neg z0,zih]
     · rw [if_pos h1,zfr h1 h9]
   · rw [zih]
 · rw [Qm.putM_no hm]
   dsimp only
   rw [if_pos (by show (1:Int)≠0;decide)]
   have h1:((D,1):Dk×Int).2≠0:=by show (1:Int)≠0;decide
   have h9:((D,1):Dk×Int).2≠9:=by show (1:Int)≠9;decide
   split
   · rw [zdj h1,zfr h1 h9]
   · rw [zfr h1 h9]
end So
end Go.Proofs.YtgmppfpllogdcaaGreat

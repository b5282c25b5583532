/-
  Parts of what the laws of this seat stand on:InsUnd,InsTaken.
-/
import Derived.Test.YtgmppfpllogdcaaGreatBi1
import Derived.Laws.EntriesVeiled
import Derived.Test.YtgmppfpllogdcaaGreatBi42
set_option maxRecDepth 100000
set_option maxHeartbeats 6400000
namespace Go.Proofs.YtgmppfpllogdcaaGreat
namespace Ins
open Go.RowKit Go.Shelf So Dsk Rts Sto
attribute [local go_sem] Oper.semAt_some
theorem zd2 {w W W':World} {b:Nat} {fv gv:Value} {cs:List (Nat×Obj)} {fs:List (Value×List Dp.Fl)} {gs:List (Value×List Rt.Sg)} {row:Option Nat} (h:Ms w b fv gv cs fs gs W) (hc:∀p∈cs,p.2.isCells=true)
 (hg:W.grownBy W' row) (hr:∀r,row=some r->b<=r/\∃o:Obj,W.heap[r]?=some o/\o.isCells=false):Ms w b fv gv cs fs gs W':=by
 have il:∀{α:Type} {Y:Lay α} {v:Value} {l:List α},IsL Y W v l->IsL Y W' v l:=fun h=>by
  obtain ⟨a,cap,rfl,h1,h2,h3⟩:=h;refine ⟨a,cap,rfl,h1,h2,?_⟩
  rcases h3 with h3 | ⟨b,off,rfl,h4⟩
  · exact .inl h3
  · exact .inr ⟨b,off,rfl,fun j u hj=>cell_kept (h4 j u hj) hg fun r e=>(hr r e).2⟩
 refine ⟨fun p hp=>⟨(h.c p hp).1,?_⟩,fun p hp=>⟨il (h.f p hp).1,(h.f p hp).2⟩,fun p hp=>⟨il (h.g p hp).1,(h.g p hp).2⟩,Nat.le_trans h.le hg.size,h.w.grown hg h.le fun r e=>(hr r e).1⟩
 exact (hg.block p.1 (Array.getElem?_eq_some_iff.1 (h.c p hp).2).1 (fun e=>by
  obtain ⟨_,o,ho,hn⟩:=hr _ e.symm;rw [(h.c p hp).2] at ho
  injection ho with ho
  rw [<-ho,hc p hp] at hn
  cases hn)).trans (h.c p hp).2
theorem zh4 {W:World} {k:Nat} {T:TypeId} {x y:Value} (h:W.heap[k]?=some (.cells #[x,y] T (0,0))):W.cell? ⟨k,0,none⟩=some x/\W.cell? ⟨k,1,none⟩=some y:=
 ⟨by rw [Lib.cell_of_heap h];rfl,by rw [Lib.cell_of_heap h];rfl⟩
theorem zkv {X Y:World} {row:Option Nat} {k:Nat} {cs:Array Value} {T:TypeId} {fz:Nat×Nat} (h:X.heap[k]?=some (.cells cs T fz)) (hg:X.grownBy Y row) (hr:∀r,row=some r->∃o:Obj,X.heap[r]?=some o/\o.isCells=false):
 Y.heap[k]?=some (.cells cs T fz):=
 (hg.block k (Array.getElem?_eq_some_iff.1 h).1 (fun e=>by obtain ⟨o,ho,hc⟩:=hr k e.symm;rw [h] at ho;cases ho;cases hc)).trans h
def Uc (b:Nat) (a:Option Addr) (n c:Nat) (D:Dp.Dk):List (Nat×Obj):=
 [(b+1+1,.cells #[.int .i64 0] 35),(b+1,z5),(b,.cells #[.slice a n c,.int .i64 D.c,.bool D.a,.int .i64 D.l,.bool D.x] 27)]
def Ui (w:World) (fv:Value) (ss:List Sp) (D0:Dp.Dk) (k:Nat) {fs:List El} (pre:List (It fs)) (W:World):Prop:=
 ∃a n c D,Ms w w.heap.size fv (.slice none 0 0) (Uc w.heap.size a n c D) [(.slice a n c,D.f)] [] W/\(∀r,zaT D0 (pre.map (fun x=>ss.getD x.1 zs)++r)=zaT D r)/\Bd D (k+10*pre.length)
def Ur (w:World) (fv:Value) (ss:List Sp) (D0:Dp.Dk) {fs:List El} (pre:List (It fs)) (W:World):Prop:=
 ∃a n c R,Ms w w.heap.size fv (.slice none 0 0) [(w.heap.size+1+1,.cells #[.int .i64 R.2] 35),(w.heap.size+1,.cells #[.slice a n c,.int .i64 R.1.c,.bool R.1.a,.int .i64 R.1.l,.bool R.1.x] 27)] [(.slice a n c,R.1.f)] [] W/\∀r,zaT D0 (pre.map (fun x=>ss.getD x.1 zs)++r)=R
theorem zb0 {P:Nat×Obj->Prop} {x y:Nat×Obj} (h1:P x) (h2:P y):∀p∈[x,y],P p:=fun p hp=>by
 simp only [List.mem_cons,List.not_mem_nil,or_false] at hp
 rcases hp with rfl | rfl
 · exact h1
 · exact h2
theorem zfn {P:Nat×Obj->Prop} {x y z:Nat×Obj} (h1:P x) (h2:P y) (h3:P z):∀p∈[x,y,z],P p:=fun p hp=>by
 rcases List.mem_cons.1 hp with rfl | hp
 · exact h1
 · exact zb0 h2 h3 p hp
section
variable {w:World} {fv:Value} {ss:List Sp} {D0:Dp.Dk} {k B:Nat} {fs:List El}
theorem ui_own (hB:w.heap.size<=B):OwnFrom B (fun (pre:List (It fs)) W=>Ui w fv ss D0 k pre W):=fun s W W' row hs hg hr=>by
 obtain ⟨a,n,c,D,M,h2,h3⟩:=hs;exact ⟨a,n,c,D,zd2 M (zfn rfl rfl rfl) hg fun r e=>⟨Nat.le_trans hB (hr r e).1,(hr r e).2⟩,h2,h3⟩
theorem ur_own (hB:w.heap.size<=B) (c:Code):OwnFrom B (fun (pre:List (It fs)) W=>c= .ret/\Ur w fv ss D0 pre W):=fun s W W' row hs hg hr=>by
 obtain ⟨hc,a,n,c,D,M,h2⟩:=hs;exact ⟨hc,a,n,c,D,zd2 M (zb0 rfl rfl) hg fun r e=>⟨Nat.le_trans hB (hr r e).1,(hr r e).2⟩,h2⟩
end
theorem zi3 (fa:Option Addr) (fn fc:Nat) (D:Dp.Dk) (la:Option Addr) (ln lc:Nat) (fs:List El) (ss:List Sp) (w:World) (k:Nat) (hv:IsL FL w (.slice fa fn fc) D.f) (hl:IsL TL w (.slice la ln lc) fs) (hs:Sps w fs ss) (hf:Few ss) (hB:Bd D k) (hk:k+10*ss.length<=90000):
 Calls Tryz.prog 60 #[zac (.slice fa fn fc) D,.slice la ln lc] w (zaL w (.slice fa fn fc) (zaT D ss.reverse)):=by
 have hln:ln=ss.length:=hl.len.1.trans hs.len;have M0:=(((Ms.start (gv:= .slice none 0 0) (lg:=[]) hv (IsL.nil w none 0)).alloc #[.slice fa fn fc,.int .i64 D.c,.bool D.a,.int .i64 D.l,.bool D.x] 27).alloc #[.slice none 0 0,.int .i64 0,.bool false,.int .i64 0,.bool false] 27).alloc #[.int .i64 0] 35;simp only [World.size_alloc] at M0;have hM1:Ms w w.heap.size (.slice fa fn fc) (.slice none 0 0) (Uc w.heap.size fa fn fc D) [(.slice fa fn fc,D.f)] [] _:=(M0.sub (fun _ h=>h) (fun _ h=>h) (fun _ h=>absurd h List.not_mem_nil)).keep (zbt _ (.cells #[.slice la ln lc] 69));have bC:=Boxed.new (((w.alloc (.cells #[.slice fa fn fc,.int .i64 D.c,.bool D.a,.int .i64 D.l,.bool D.x] 27)).alloc (.cells #[.slice none 0 0,.int .i64 0,.bool false,.int .i64 0,.bool false] 27)).alloc (.cells #[.int .i64 0] 35)) 69 (.slice la ln lc);simp only [World.size_alloc] at bC;have BK:=zid fun W:World=>zg5 la ln lc W;have HL:=zid hl;have HS:=zid hs;have HF:=zid hf;have HB:=zid hB;have HLN:=zid hln
 have hkn:k+10*ln<=90000:=by omega
 obtain ⟨R,hR⟩:∃R,zaT D ss.reverse=R:=⟨_,rfl⟩;have HR:=zid hR;rw [hR];clear hv hl hs hf hB hk M0 hR hln;unfold zac;refine (callsIn_wide (n:=6)).1 ?_;refine callsIn_of_wp_marks Tryz.func60 rfl trivial ?_ rfl;simp only [Tryz.ntmps60,List.size_toArray,List.length_cons,List.length_nil,Nat.reduceAdd,Nat.reduceSub,Array.replicate_succ,Array.replicate_zero,List.push_toArray,List.append_toArray,List.nil_append,List.cons_append]
 gi_wp2_with (refine ⟨trivial,?_⟩;gi_at_call 94;refine (callsIn_wide.2 (BK.out _)).mono ?_;rintro e w' ⟨rfl,rfl⟩)
 have hsz:((((w.alloc (.cells #[.slice fa fn fc,.int .i64 D.c,.bool D.a,.int .i64 D.l,.bool D.x] 27)).alloc (.cells #[.slice none 0 0,.int .i64 0,.bool false,.int .i64 0,.bool false] 27)).alloc (.cells #[.int .i64 0] 35)).alloc (.cells #[.slice la ln lc] 69)).heap.size=w.heap.size+4:=by simp
 obtain ⟨W0,hW0⟩:∃W0,(((w.alloc (.cells #[.slice fa fn fc,.int .i64 D.c,.bool D.a,.int .i64 D.l,.bool D.x] 27)).alloc (.cells #[.slice none 0 0,.int .i64 0,.bool false,.int .i64 0,.bool false] 27)).alloc (.cells #[.int .i64 0] 35)).alloc (.cells #[.slice la ln lc] 69)=W0:=⟨_,rfl⟩;rw [hW0] at bC hM1 hsz ⊢;clear hW0
 refine wpIn_rangeFunc_ownH (F:=Fence.wide) rfl (by decide) (gf:=113) (lb:= #[.pointer (some ⟨w.heap.size+1+1+1,0,none⟩)]) rfl trivial (enters_of Tryz.func113 (by kernel_rfl) rfl)
  (zjW la ln lc (w.heap.size+1+1+1) 5 fs w 69 (by decide) HL.out W0 bC hM1.w)
  (fun h k=>kpW_t h k) (fun W l o o' hl ho hc hw=>⟨fun x hx=>(World.putObj_heap_other (by omega)).trans hx,fun b=>b.trans (belowK_b (w:=w) (Nat.le_refl _) W l o o' (by omega) ho hc hw)⟩) (Below.refl _ _) (fun _=>rfl)
  (fun (pre:List (It fs)) W=>Ui w (.slice fa fn fc) ss D k pre W)
  (fun c pre W=>c= .ret/\Ur w (.slice fa fn fc) ss D pre W)
  (ui_own (by omega)) (ur_own (by omega))
  ⟨_,_,_,D,hM1,fun _=>rfl,HB.out⟩
  (fun x a' W=>∃Bx,w.heap.size+1+1<Bx/\W.heap[Bx]?=some (.cells #[fnV (fs.getD x.1 TL.z).1,opV (fs.getD x.1 TL.z).2] 109 (0,0))/\a'={defers:=[],tmps:=
   #[Value.agg #[Value.slice fa fn fc,Value.int IntKind.i64 D.c,Value.bool D.a,Value.int IntKind.i64 D.l,Value.bool D.x],
    Value.slice la ln lc,Value.pointer (some {block:=w.heap.size,off:=0}),undef,
    Value.pointer (some {block:=w.heap.size+1,off:=0}),
    Value.pointer (some {block:=w.heap.size+1+1,off:=0}),undef,Value.pointer (some ⟨Bx,0,none⟩),undef,undef,
    Value.slice la ln lc,
    Value.func (Fn.func 113) #[] #[Value.pointer (some {block:=w.heap.size+1+1+1,off:=0})],.int .i64 (x.1:Int),
    .agg #[fnV (fs.getD x.1 TL.z).1,opV (fs.getD x.1 TL.z).2],undef,undef,undef,undef,undef,undef,undef,undef,undef,undef,undef,undef,undef,
    undef,undef,undef]})
  (fun x a' _ X Y row hs hg hr=>by obtain ⟨Bx,h1,h2,h3⟩:=hs;exact ⟨Bx,h1,zkv h2 hg (fun r e=>(hr r e).2),h3⟩)
  ?assign ?body ?done ?stop
 case assign=>
  rintro l pre x W K hI hK
  have hB1:Below w.heap.size w W:=by obtain ⟨a,n,c,D',M,_⟩:=hI;exact M.w
  have hK:=zid (fun a' h=>hK a' _ ((KeepsOthers.alloc W (.cells #[fnV (fs.getD x.1 TL.z).1,opV (fs.getD x.1 TL.z).2] 109)).from _) ⟨fun o ho=>halloc ho,fun b=>b.alloc b.size _⟩ (by obtain ⟨a,n,c,D',M,h2,h3⟩:=hI;exact ⟨a,n,c,D',M.keep (zbt _ _),h2,h3⟩) ⟨W.heap.size,by obtain ⟨a,n,c,D',M,h2,h3⟩:=hI;exact M.lt mcs,heap_alloc_new W _,h⟩);unfold ziR;generalize fs.getD x.1 TL.z=y at*;obtain ⟨x1,x2⟩:=y;dsimp only at hK ⊢;unfold fnV at hK ⊢
  rcases x2 with _ | x2
  · unfold opV at hK ⊢
    gi_wp2
    exact hK.out _ rfl
  · unfold opV fnV at hK ⊢
    gi_wp2
    exact hK.out _ rfl
 case body=>
  rintro l pre x a' W hl hr ⟨a,n,c,D',M,hU,hBd⟩ ⟨Bx,hBx,gX,rfl⟩ hlt
  have hss:x.1<ss.length:=by have:=x.2;have:=HS.out.len;omega
  obtain ⟨_,hu⟩:=HS.out.at_ x.1 hss;have hfw:=(HF.out (ss.getD x.1 zs) (by rw [zao hss];exact List.getElem_mem hss)).2;have HPL:=zid (show (pre++[x]).length=pre.length+1 by simp);have HNX:=zid (show ∀r,zaT D ((pre++[x]).map (fun x=>ss.getD x.1 zs)++r)=zaT D' (ss.getD x.1 zs::r) from fun r=>by rw [List.map_append,List.append_assoc];exact hU _);generalize ss.getD x.1 zs=s at*;generalize fs.getD x.1 TL.z=y at*;obtain ⟨x1,x2⟩:=y;have HM:=zid M;have HBD:=zid hBd;have HX:=zid gX;have HHX:=zid hBx;obtain ⟨xi,hxi⟩:=x;dsimp only at hu HX hlt ⊢
  rcases hu.cases with ⟨rfl,hn⟩ | ⟨f,u,rfl,hn,hc⟩
  · unfold fnV opV at*
    obtain ⟨z0,z1⟩:=zh4 HX.out
    clear hU M hBd gX hu hfw hBx;have heq:=eq_nil
    gi_wp2
    exact ⟨KeepsFrom.refl _ _,kpW_b (Below.refl _ _),_,_,_,_,HM.out,fun r=>(HNX.out r).trans (zc8 hn),HBD.out.mono (by rw [HPL.out];omega)⟩
  · obtain ⟨N,caps⟩:=f
    unfold fnV opV fnV at*
    obtain ⟨z0,z1⟩:=zh4 HX.out;have heq:=eq_func;have hen:=hc.1;obtain ⟨⟨X,E⟩,hX⟩:∃R,u D'=R:=⟨_,rfl⟩;have HC:=zid (hc.2 W M.w a n c D' _ (M.fl mcs) hBd (by omega));have HB2:=zid (show Bd X (k+10*(pre.length+1)) from by have:=hfw u hn D' _ hBd;rw [hX] at this;exact this.mono (by omega));rw [hX] at HC;have HU:=zid (fun r=>(HNX.out r).trans (zct hn hX));unfold zac at HC;dsimp only at HC hen;obtain ⟨p0,p1,p2,p3,p4⟩:=zaa (M.at_ (t:=w.heap.size) (mcm (mcm mcs)));clear hU M hBd gX hu hfw hBx hc hX HNX
    by_cases hE:E=0
    · subst hE
      gi_wp2_with (refine ⟨trivial,?_⟩;refine (callsIn_wide.2 HC.out).mono ?_;rintro e w1 ⟨a1,n1,c1,rfl,kk⟩;have M1:=HM.out.call (D':=X) mcs kk;have HM2:=zid (M1.alloc #[.slice a1 n1 c1,.int .i64 X.c,.bool X.a,.int .i64 X.l,.bool X.x] 27);have KB:=zid (kk.w.alloc kk.w.size (.cells #[.slice a1 n1 c1,.int .i64 X.c,.bool X.a,.int .i64 X.l,.bool X.x] 27));obtain ⟨r0,r1,r2,r3,r4⟩:=zaa (M1.at_ (t:=w.heap.size) (mcm (mcm mcs)));obtain ⟨rf0,rf1,rf2,rf3,rf4⟩:=zad (M1.at_ (t:=w.heap.size) (mcm (mcm mcs)));obtain ⟨t0,t1,t2,t3,t4⟩:=zaa (HM2.out.at_ (t:=w.heap.size) (mcm (mcm (mcm mcs))));obtain ⟨tf0,tf1,tf2,tf3,tf4⟩:=zad (HM2.out.at_ (t:=w.heap.size) (mcm (mcm (mcm mcs))));clear kk M1;unfold zac;dsimp only)
      obtain ⟨Z,hZ,MZ⟩:=HM2.out.lay5 (t:=w.heap.size) (cs':=Uc w.heap.size a1 n1 c1 X) (mcm (mcm (mcm mcs))) (.slice a1 n1 c1) (.int .i64 X.c) (.bool X.a) (.int .i64 X.l) (.bool X.x) (zfn (.inr ⟨mcm mcs,by show w.heap.size+1+1≠w.heap.size;omega⟩) (.inr ⟨mcm (mcm mcs),by show w.heap.size+1≠w.heap.size;omega⟩) (.inl rfl));refine ⟨(keepsI KB.out).trans ((zdF _ _ _ _ _).from _),kpW_t (kpW_b KB.out) (kpW_set5 (by omega) (Nat.le_refl _) _ _ _ _ _),a1,n1,c1,X,?_,fun r=>(HU.out r).trans (if_neg fun h=>h rfl),by rw [HPL.out];exact HB2.out⟩;rw [hZ];exact MZ.sub (fun _ h=>h) (fun p hp=>by rw [List.mem_singleton] at hp;rw [hp];exact mcs) (fun _ h=>h)
    · have hE':=ne_b hE
      gi_wp2_with (refine ⟨trivial,?_⟩;refine (callsIn_wide.2 HC.out).mono ?_;rintro e w1 ⟨a1,n1,c1,rfl,kk⟩;have M1:=HM.out.call (D':=X) mcs kk;have HM2:=zid (M1.alloc #[.slice a1 n1 c1,.int .i64 X.c,.bool X.a,.int .i64 X.l,.bool X.x] 27);have KB:=zid (kk.w.alloc kk.w.size (.cells #[.slice a1 n1 c1,.int .i64 X.c,.bool X.a,.int .i64 X.l,.bool X.x] 27));obtain ⟨r0,r1,r2,r3,r4⟩:=zaa (M1.at_ (t:=w.heap.size+1) (mcm mcs));obtain ⟨rf0,rf1,rf2,rf3,rf4⟩:=zad (M1.at_ (t:=w.heap.size+1) (mcm mcs));obtain ⟨t0,t1,t2,t3,t4⟩:=zaa (HM2.out.at_ (t:=w.heap.size+1) (mcm (mcm mcs)));obtain ⟨tf0,tf1,tf2,tf3,tf4⟩:=zad (HM2.out.at_ (t:=w.heap.size+1) (mcm (mcm mcs)));obtain ⟨v0,vf0⟩:=zaE (M1.at_ (t:=w.heap.size+1+1) mcs);obtain ⟨y0,yf0⟩:=zaE (HM2.out.at_ (t:=w.heap.size+1+1) (mcm mcs));clear kk M1;unfold zac;dsimp only)
      obtain ⟨Z,hZ,MZ⟩:=HM2.out.lay5 (t:=w.heap.size+1) (cs':=[(w.heap.size+1+1,.cells #[.int .i64 0] 35),(w.heap.size+1,.cells #[.slice a1 n1 c1,.int .i64 X.c,.bool X.a,.int .i64 X.l,.bool X.x] 27)]) (mcm (mcm mcs)) (.slice a1 n1 c1) (.int .i64 X.c) (.bool X.a) (.int .i64 X.l) (.bool X.x) (zb0 (.inr ⟨mcm mcs,by show w.heap.size+1+1≠w.heap.size+1;omega⟩) (.inl rfl));obtain ⟨Y,hY,MY⟩:=MZ.lay1 (t:=w.heap.size+1+1) (cs':=[(w.heap.size+1+1,.cells #[.int .i64 E] 35),(w.heap.size+1,.cells #[.slice a1 n1 c1,.int .i64 X.c,.bool X.a,.int .i64 X.l,.bool X.x] 27)]) mcs 0 (.int .i64 E) (zb0 (.inl rfl) (.inr ⟨mcm mcs,by show w.heap.size+1≠w.heap.size+1+1;omega⟩));refine ⟨((keepsI KB.out).trans ((zdF _ _ _ _ _).from _)).trans ((KeepsOthers.setCell _ _ _).from _),rfl,a1,n1,c1,(X,E),?_,fun r=>(HU.out r).trans (if_pos hE)⟩;rw [hZ,hY];exact MY.sub (fun _ h=>h) (fun p hp=>by rw [List.mem_singleton] at hp;rw [hp];exact mcs) (fun _ h=>h)
 case done=>
  rintro Df ys W hDf hS ⟨a,n,c,D',M,hU,hBd⟩ hK
  have hlen:ys.length=ln:=by have:=congrArg List.length hS;rwa [List.length_map,zd7] at this
  have hst:ys.map (fun x=>ss.getD x.1 zs)=ss.reverse:=by
   have h1:ys.map (fun x=>ss.getD x.1 zs)=(ys.map (·.1)).map (fun i=>ss.getD i zs):=by rw [List.map_map];rfl
   rw [h1,hS,HLN.out,ziP (Nat.le_refl _),List.take_of_length_le (by rw [List.length_reverse];exact Nat.le_refl _)]
  have HRR:=zid (show R=(D',9) by rw [<-HR.out, <-List.append_nil ss.reverse, <-hst];exact hU []);obtain ⟨p0,p1,p2,p3,p4⟩:=zaa (M.at_ (t:=w.heap.size) (mcm (mcm mcs)));obtain ⟨q0,q1,q2,q3,q4⟩:=zaa (M.at_ (t:=w.heap.size+1) (mcm mcs));obtain ⟨qf0,qf1,qf2,qf3,qf4⟩:=zad (M.at_ (t:=w.heap.size+1) (mcm mcs));obtain ⟨v0,vf0⟩:=zaE (M.at_ (t:=w.heap.size+1+1) mcs);obtain ⟨Z,hZ,MZ⟩:=M.lay5 (t:=w.heap.size+1) (cs':=[(w.heap.size+1+1,.cells #[.int .i64 0] 35),(w.heap.size+1,.cells #[.slice a n c,.int .i64 D'.c,.bool D'.a,.int .i64 D'.l,.bool D'.x] 27)]) (mcm mcs) (.slice a n c) (.int .i64 D'.c) (.bool D'.a) (.int .i64 D'.l) (.bool D'.x) (zb0 (.inr ⟨mcs,by show w.heap.size+1+1≠w.heap.size+1;omega⟩) (.inl rfl));obtain ⟨Y,hY,MY⟩:=MZ.lay1 (t:=w.heap.size+1+1) (cs':=[(w.heap.size+1+1,.cells #[.int .i64 9] 35),(w.heap.size+1,.cells #[.slice a n c,.int .i64 D'.c,.bool D'.a,.int .i64 D'.l,.bool D'.x] 27)]) mcs 0 (.int .i64 9) (zb0 (.inl rfl) (.inr ⟨mcm mcs,by show w.heap.size+1≠w.heap.size+1+1;omega⟩))
  have hKY:Y.heap[Df]?=some (.deferred (some [])):=by
   rw [<-hY, <-hZ];exact ((zdF _ _ _ _ _).trans (KeepsOthers.setCell _ _ _)).same _ _ hK rfl
  have HW:=zid (show _=Y from (congrArg (fun X:World=>X.setCell ⟨w.heap.size+1+1,0,none⟩ (.int .i64 9)) hZ).trans hY);have M3:=zd2 MY (zb0 rfl rfl) (grownBy_putObj' Y Df (.deferred none)) (fun r e=>by cases e;exact ⟨by omega,_,hKY,rfl⟩);obtain ⟨e0,e1,e2,e3,e4⟩:=zaa (M3.at_ (t:=w.heap.size+1) (mcm mcs));obtain ⟨e5,_⟩:=zaE (M3.at_ (t:=w.heap.size+1+1) mcs);have HE:=zid (And.intro e0 (And.intro e1 (And.intro e2 (And.intro e3 (And.intro e4 e5)))));have HD:=zid (M3.dks mcs);have HK:=zid hKY;clear hS hU hBd hK hst M MZ MY M3 hZ hY hKY e0 e1 e2 e3 e4 e5 hlen;dsimp only
  gi_wp2
  rw [HW.out];refine ⟨by simp,.inl ⟨_,_,rfl,run_takeDeferred HK.out,?_⟩⟩;obtain ⟨e0,e1,e2,e3,e4,e5⟩:=HE.out;refine ⟨.tuple #[.agg #[.slice a n c,.int .i64 D'.c,.bool D'.a,.int .i64 D'.l,.bool D'.x],.int .i64 9],by simp [results,Tryz.results60,go_sem,e0,e1,e2,e3,e4,e5],?_⟩;rw [HRR.out];exact ⟨_,_,_,rfl,HD.out⟩
 case stop=>
  rintro Df c pre W hDf ⟨m,hm,hS⟩ ⟨rfl,a,n,c',D',M,hU⟩ hK
  have hst:pre.map (fun x=>ss.getD x.1 zs)++ss.reverse.drop m=ss.reverse:=by
   have h1:pre.map (fun x=>ss.getD x.1 zs)=(pre.map (·.1)).map (fun i=>ss.getD i zs):=by rw [List.map_map];rfl
   rw [h1,hS,HLN.out,ziP (by have:=HLN.out;omega),List.take_append_drop]
  have HRR:=zid (show R=D' by rw [<-HR.out, <-hst];exact hU _);have M3:=zd2 M (zb0 rfl rfl) (grownBy_putObj' W Df (.deferred none)) (fun r e=>by cases e;exact ⟨by omega,_,hK,rfl⟩);obtain ⟨e0,e1,e2,e3,e4⟩:=zaa (M3.at_ (t:=w.heap.size+1) (mcm mcs));obtain ⟨e5,_⟩:=zaE (M3.at_ (t:=w.heap.size+1+1) mcs);have HE:=zid (And.intro e0 (And.intro e1 (And.intro e2 (And.intro e3 (And.intro e4 e5)))));have HD:=zid (M3.dks mcs);have HK:=zid hK;clear hS hU hK hst M M3 e0 e1 e2 e3 e4 e5;dsimp only
  gi_wp2
  refine ⟨by simp,.inl ⟨_,_,rfl,run_takeDeferred HK.out,?_⟩⟩;obtain ⟨e0,e1,e2,e3,e4,e5⟩:=HE.out;refine ⟨.tuple #[.agg #[.slice a n c',.int .i64 D'.1.c,.bool D'.1.a,.int .i64 D'.1.l,.bool D'.1.x],.int .i64 D'.2],by simp [results,Tryz.results60,go_sem,e0,e1,e2,e3,e4,e5],?_⟩;rw [HRR.out];exact ⟨_,_,_,rfl,HD.out⟩
end Ins
namespace Ins
open Go.RowKit So Dsk Rts Sto
theorem take_rev {α:Type} {l:List α} {i:Nat} {z:α} (h:i<l.length):(l.take (i+1)).reverse=l.getD i z::(l.take i).reverse:=by
 rw [zbv (z:=z) h,List.reverse_append];rfl
theorem drop_get {α:Type} {l:List α} {i:Nat} {z:α} (h:i<l.length):l.drop i=l.getD i z::l.drop (i+1):=by
 rw [List.drop_eq_getElem_cons h,zao h]
def Dv (w:World) (fv:Value) (D:Dp.Dk) (W:World):Prop:=∃a n c,Ms w w.heap.size fv (.slice none 0 0) [(w.heap.size+1,z5),(w.heap.size,.cells #[.slice a n c,.int .i64 D.c,.bool D.a,.int .i64 D.l,.bool D.x] 27)] [(.slice a n c,D.f)] [] W
theorem zfW (fa:Option Addr) (fn fc:Nat) (D:Dp.Dk) (la:Option Addr) (ln lc:Nat) (fs:List El) (ss:List Sp) (w:World) (k:Nat) (hv:IsL FL w (.slice fa fn fc) D.f) (hl:IsL TL w (.slice la ln lc) fs) (hs:Sps w fs ss) (hf:Few ss) (hB:Bd D k) (hk:k+20*ss.length<=90000):
 Calls Tryz.prog 28 #[zac (.slice fa fn fc) D,.slice la ln lc] w (zaL w (.slice fa fn fc) (zcG [] D ss)):=by
 have hlr:=hl.room;have hln:ln=ss.length:=hl.len.1.trans hs.len;have M0:=((Ms.start (gv:= .slice none 0 0) (lg:=[]) hv (IsL.nil w none 0)).alloc #[.slice fa fn fc,.int .i64 D.c,.bool D.a,.int .i64 D.l,.bool D.x] 27).alloc #[.slice none 0 0,.int .i64 0,.bool false,.int .i64 0,.bool false] 27;rw [World.size_alloc] at M0;have HD0:=zid (show Dv w (.slice fa fn fc) D _ from ⟨_,_,_,M0.sub (fun _ h=>h) (fun _ h=>h) (fun _ h=>absurd h List.not_mem_nil)⟩);have HL:=zid hl;have HS:=zid hs;have HF:=zid hf;have HB:=zid hB;have HLN:=zid hln
 have hkn:k+20*ln<=90000:=by omega
 obtain ⟨R,hR⟩:∃R,zcG [] D ss=R:=⟨_,rfl⟩;have HR:=zid hR;rw [hR];clear hv hl hs hf hB hk M0 hR hln;unfold zac
 go_enter Tryz.func28,Tryz.ntmps28
 go_upto_region 1 with (fail);generalize World.alloc (World.alloc w _) _=w1 at HD0 ⊢;go_wp2_with fail
 go_loopw [12] (fun i wr=>∃n:Nat,n<=ln/\i= .int .i64 n/\Hid (∃D',Dv w (.slice fa fn fc) D' wr/\zcG (ss.take n).reverse D' (ss.drop n)=R/\Bd D' (k+10*n))) (fun i _=>ln-(intOf i).toNat)
 case atStart=>exact ⟨0,Nat.zero_le _,rfl,zid ⟨D,HD0.out,HR.out,HB.out⟩⟩
 case round=>
  clear HD0 HR;obtain ⟨n,hn,rfl,HH⟩:=hrel;obtain ⟨D',⟨a,m,c,M⟩,hT,hBd⟩:=HH.out;have HM:=zid M;have hnl:=HLN.out
  by_cases hlt:n<ln
  · obtain ⟨b,off,rfl,c0,c1⟩:=tl_at (HL.out.keep M.w) hlt
    obtain ⟨hd,_⟩:=(HS.out.at_ n (by omega))
    have hfw:=(HF.out (ss.getD n zs) (by rw [zao (by omega)];exact List.getElem_mem _)).1;rw [drop_get (z:=zs) (show n<ss.length by omega)] at hT;have hTR:=take_rev (z:=zs) (show n<ss.length by omega);generalize ss.getD n zs=s at*;generalize fs.getD n TL.z=y at*;obtain ⟨⟨N,caps⟩,x2⟩:=y;obtain ⟨⟨X,E⟩,hX⟩:∃R,s.d D'=R:=⟨_,rfl⟩;rw [zcu _ _ hX] at hT;dsimp only at hT c0 c1;have HT:=zid hT;have hen:=hd.1
    have HC:=(show Calls Tryz.prog N (#[zac (.slice a m c) D']++caps) (wr.alloc (.cells #[.func (.func N) #[] caps,opV x2] 109)) (zaL (wr.alloc (.cells #[.func (.func N) #[] caps,opV x2] 109)) (.slice a m c) (X,E)) from by
     have h:=zbt wr (.cells #[.func (.func N) #[] caps,opV x2] 109);have:=hd.2 _ (M.w.trans (h.mono M.w.size)) a m c D' _ ((M.fl mcs).keep h) hBd (by omega);rw [hX] at this
     exact this)
    have HMX:=M.alloc #[.func (.func N) #[] caps,opV x2] 109;have HB2:=zid (show Bd X (k+10*(n+1)) from by have:=hfw D' _ hBd;rw [hX] at this;exact this.mono (by omega));have HTR:=zid hTR;unfold zac at HC;dsimp only at hen;have hgb:=block_lt_of_cell c0;clear M hT hBd HH hd hfw hX hTR hnl;unfold fnV at c0;have hso:∀(a:Addr) (m:Mode) (W:World),(store a (opV x2) m).run Tryz.prog W=stored Tryz.prog W a (opV x2) m:=fun a m W=>run_store _ _ _ _ _ (zkW x2);generalize opV x2=o at*;replace HC:=zid HC;replace HMX:=zid HMX;go_upto_region 4 with (fail);clear c0 c1 hgb hso HM;generalize World.alloc wr _=wx at HC HMX ⊢;generalize wr.heap.size=sx at HMX ⊢;have hsx:=HMX.out.lt mcs;obtain ⟨z0,z1⟩:=zh4 (HMX.out.at_ mcs);obtain ⟨p0,p1,p2,p3,p4⟩:=zaa (HMX.out.at_ (t:=w.heap.size) (mcm (mcm mcs)))
    go_upto_region 5 with (refine HC.out.mono ?_;rintro e w1 ⟨a1,n1,c1',rfl,kk⟩;have M1:=HMX.out.call (D':=X) mcs kk;have hkw:=kk.w.size;have HM2:=zid (M1.alloc #[.slice a1 n1 c1',.int .i64 X.c,.bool X.a,.int .i64 X.l,.bool X.x] 27);clear kk M1;unfold zac;dsimp only)
    have hy:w.heap.size+1<w1.heap.size:=Nat.lt_of_lt_of_le (HMX.out.lt (t:=w.heap.size+1) (mcm mcs)) hkw;clear z0 z1 p0 p1 p2 p3 p4 hsx hkw HC HMX hen;generalize World.alloc w1 _=W2 at HM2 ⊢;generalize w1.heap.size=y at HM2 hy ⊢;obtain ⟨y0,y1,y2,y3,y4⟩:=zaa (HM2.out.at_ (t:=y) mcs)
    by_cases h0:E=0
    · subst h0
      obtain ⟨q0,q1,q2,q3,q4⟩:=zaa (HM2.out.at_ (t:=w.heap.size) (mcm (mcm (mcm mcs))))
      obtain ⟨qf0,qf1,qf2,qf3,qf4⟩:=zad (HM2.out.at_ (t:=w.heap.size) (mcm (mcm (mcm mcs))));obtain ⟨Z,hZ,MZ⟩:=HM2.out.lay5 (t:=w.heap.size) (cs':=[(w.heap.size+1,z5),(w.heap.size,.cells #[.slice a1 n1 c1',.int .i64 X.c,.bool X.a,.int .i64 X.l,.bool X.x] 27)]) (mcm (mcm (mcm mcs))) (.slice a1 n1 c1') (.int .i64 X.c) (.bool X.a) (.int .i64 X.l) (.bool X.x) (zb0 (.inr ⟨mcm (mcm mcs),by show w.heap.size+1≠w.heap.size;omega⟩) (.inl rfl));have HZ:=zid hZ;have HMZ:=zid MZ;clear hZ MZ;go_wp2_with fail;rw [HZ.out]
      go_roundw
      case rel=>
       refine ⟨n+1,by omega,by go_num,zid ⟨X,⟨a1,n1,c1',HMZ.out.sub (fun _ h=>h) (fun p hp=>by rw [List.mem_singleton] at hp;rw [hp];exact mcs) (fun _ h=>h)⟩,?_,HB2.out⟩⟩;rw [HTR.out];exact HT.out
      case measure=>simp [intOf];omega
    have h0':=ne_b h0;obtain ⟨q0,q1,q2,q3,q4⟩:=zaa (HM2.out.at_ (t:=w.heap.size+1) (mcm (mcm mcs)));obtain ⟨qf0,qf1,qf2,qf3,qf4⟩:=zad (HM2.out.at_ (t:=w.heap.size+1) (mcm (mcm mcs)))
    by_cases h9:E=9
    · subst h9
      have HU:=zid (show zaT X (ss.take n).reverse=R by rw [<-HT.out,if_neg h0,if_pos rfl])
      have UN:=fun (W:World) (h:Below W2.heap.size W2 W)=>zi3 a1 n1 c1' X (some ⟨b,off,none⟩) n lc (fs.take n) (ss.take n) W (k+10*(n+1)) ((HM2.out.fl mcs).keep h) ((HL.out.keep (HM2.out.w.trans (h.mono HM2.out.w.size))).take hn) ((HS.out.keep (HM2.out.w.trans (h.mono HM2.out.w.size))).take n) (HF.out.take n) HB2.out (by rw [List.length_take];omega);rw [HU.out] at UN;unfold zac at UN;replace UN:=zid UN;have hnc:n<=lc:=Nat.le_trans hn hlr;have hl1:w.heap.size+1<W2.heap.size:=HM2.out.lt (t:=w.heap.size+1) (mcm (mcm mcs));have e0:((9:Int)==0)=false:=rfl;have e9:((9:Int)==9)=true:=rfl;have dr:=(Below.refl W2.heap.size W2).drew;obtain ⟨d0,d1,d2,d3,d4⟩:=zaa (hkeep (HM2.out.at_ (t:=y) mcs) dr);clear h0 h0' dr;go_upto_region 10 with (fail)
      go_region_with (go_at_call 60;refine (UN.out _ (by first | exact (Below.refl _ _).drew | exact Below.refl _ _)).mono ?_;rintro e w6 ⟨a6,n6,c6,rfl,k6⟩;have M6:=(HM2.out.keep (by first | exact (Below.refl _ _).drew | exact Below.refl _ _)).call (D':=R.1) mcs k6;have HM6:=zid M6;obtain ⟨r0,r1,r2,r3,r4⟩:=zaa (M6.at_ (t:=w.heap.size+1) (mcm (mcm mcs)));obtain ⟨rf0,rf1,rf2,rf3,rf4⟩:=zad (M6.at_ (t:=w.heap.size+1) (mcm (mcm mcs)));clear k6 M6;unfold zac;dsimp only)
      all_goals
       obtain ⟨Z,hZ,MZ⟩:=HM6.out.lay5 (t:=w.heap.size+1) (cs':=[(w.heap.size+1,.cells #[.slice a6 n6 c6,.int .i64 R.1.c,.bool R.1.a,.int .i64 R.1.l,.bool R.1.x] 27)]) (mcm (mcm mcs)) (.slice a6 n6 c6) (.int .i64 R.1.c) (.bool R.1.a) (.int .i64 R.1.l) (.bool R.1.x) (fun p hp=> .inl (List.mem_singleton.1 hp))
       have HZ:=zid hZ;have HMZ:=zid MZ;clear hZ MZ;go_wp2_with fail;rw [HZ.out];obtain ⟨z0,z1,z2,z3,z4⟩:=zaa (HMZ.out.at_ mcs);refine bodyPost_ret (v:= .tuple #[.agg #[.slice a6 n6 c6,.int .i64 R.1.c,.bool R.1.a,.int .i64 R.1.l,.bool R.1.x],.int .i64 R.2]) (by simp [results,Tryz.results28,go_sem,z0,z1,z2,z3,z4]) rfl ?_;exact ⟨_,_,_,rfl,HMZ.out.dks mcs⟩
    · have HR:=zid (show R=(X,E) by rw [<-HT.out,if_neg h0,if_neg h9])
      have e0:(E==0)=false:=by simpa using h0
      have e9:(E==9)=false:=by simpa using h9
      obtain ⟨Z,hZ,MZ⟩:=HM2.out.lay5 (t:=w.heap.size+1) (cs':=[(w.heap.size+1,.cells #[.slice a1 n1 c1',.int .i64 X.c,.bool X.a,.int .i64 X.l,.bool X.x] 27)]) (mcm (mcm mcs)) (.slice a1 n1 c1') (.int .i64 X.c) (.bool X.a) (.int .i64 X.l) (.bool X.x) (fun p hp=> .inl (List.mem_singleton.1 hp));have HZ:=zid hZ;have HMZ:=zid MZ;clear hZ MZ h0 h9;go_wp2_with fail;rw [HZ.out];obtain ⟨z0,z1,z2,z3,z4⟩:=zaa (HMZ.out.at_ mcs);refine bodyPost_ret (v:= .tuple #[.agg #[.slice a1 n1 c1',.int .i64 X.c,.bool X.a,.int .i64 X.l,.bool X.x],.int .i64 E]) (by simp [results,Tryz.results28,go_sem,z0,z1,z2,z3,z4]) rfl ?_;rw [HR.out];exact ⟨_,_,_,rfl,HMZ.out.dks mcs⟩
  · obtain rfl:n=ln:=by omega
    rw [show ss.drop n=[] from List.drop_of_length_le (by omega),zj8] at hT
    have HR:=zid hT.symm;obtain ⟨p0,p1,p2,p3,p4⟩:=zaa (M.at_ (t:=w.heap.size) (mcm mcs));obtain ⟨q0,q1,q2,q3,q4⟩:=zaa (M.at_ (t:=w.heap.size+1) mcs);obtain ⟨qf0,qf1,qf2,qf3,qf4⟩:=zad (M.at_ (t:=w.heap.size+1) mcs);obtain ⟨Z,hZ,MZ⟩:=M.lay5 (t:=w.heap.size+1) (cs':=[(w.heap.size+1,.cells #[.slice a m c,.int .i64 D'.c,.bool D'.a,.int .i64 D'.l,.bool D'.x] 27)]) mcs (.slice a m c) (.int .i64 D'.c) (.bool D'.a) (.int .i64 D'.l) (.bool D'.x) (fun p hp=> .inl (List.mem_singleton.1 hp));have HZ:=zid hZ;have HMZ:=zid MZ;clear M hZ MZ hT hBd HH hnl;go_wp2_with fail;rw [HZ.out];obtain ⟨z0,z1,z2,z3,z4⟩:=zaa (HMZ.out.at_ mcs);refine bodyPost_ret (v:= .tuple #[.agg #[.slice a m c,.int .i64 D'.c,.bool D'.a,.int .i64 D'.l,.bool D'.x],.int .i64 0]) (by simp [results,Tryz.results28,go_sem,z0,z1,z2,z3,z4]) rfl ?_;rw [HR.out];exact ⟨_,_,_,rfl,HMZ.out.dks mcs⟩
end Ins
end Go.Proofs.YtgmppfpllogdcaaGreat

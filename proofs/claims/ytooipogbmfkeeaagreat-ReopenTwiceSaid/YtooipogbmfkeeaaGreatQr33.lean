/-
  Parts of what the laws of this seat stand on:StoTake,StoTkm,DiskNames.
-/
import Derived.Test.YtooipogbmfkeeaaGreatQr1
import Derived.BigQuiet
import Derived.Deep.RegionHeld3
import Derived.Test.YtooipogbmfkeeaaGreatQr12
import Derived.Test.YtooipogbmfkeeaaGreatQr18
import Derived.Test.YtooipogbmfkeeaaGreatQr32
set_option maxRecDepth 100000
set_option maxHeartbeats 6400000
namespace Go.Proofs.YtooipogbmfkeeaaGreat
namespace Sto
open Go.RowKit So Dsk Rts
theorem ze2 (p q:Addr) (w:World):Calls Tryz.prog 85 #[.pointer (some p),.pointer (some q)] w fun e w'=>e= .returned (.func (.func 114) #[] #[.pointer (some ⟨w.heap.size+1,0,none⟩),.pointer (some ⟨w.heap.size,0,none⟩)])/\w'=(w.alloc (.cells #[.pointer (some p)] 127)).alloc (.cells #[.pointer (some q)] 128):=by
 have hmf:=Dsk.made_func
 go_enter Tryz.func85,Tryz.ntmps85
 go_wp2_with fail;go_ret;exact ⟨by simp,rfl⟩
theorem take1_no (f:Value) (be bd pe:Nat) (E:Int) (hE:E≠0) (w:World) (h1:w.cell? ⟨be,0,none⟩=some (.pointer (some ⟨pe,0,none⟩))) (h2:w.cell? ⟨pe,0,none⟩=some (.int .i64 E)):
 Calls Tryz.prog 114 #[f,.pointer (some ⟨be,0,none⟩),.pointer (some ⟨bd,0,none⟩)] w fun e w'=>e= .returned (.tuple #[])/\w=w':=by
 have hb:=ne_b hE;clear hE
 go_enter Tryz.func114,Tryz.ntmps114
 go_wp2_with fail
 go_end0
 exact ⟨rfl,rfl⟩
theorem zgP {P:Program} {id:Nat} {ops:Array Oper} {Q:Exit->Act->World->Prop} {a:Act} {w:World} (hm:P.follows .mixedOrders=true) (S:World->Prop) (k:Nat) (hk:ops.size=k) (L:Array Bool) (hL:Array.replicate k false=L)
 (h:wpAnyH P .any ops Q S k L a w.drew):(Code.region id ops true).wp P Q a w:=
 wp_region_held (S:=S) hm (by rw [hk,hL];exact h)
section
variable {W W':World} {be bd pe pd:Nat} {x y:Value}
theorem Pq.keep (h:W.cell? ⟨be,0,none⟩=some x/\W.cell? ⟨bd,0,none⟩=some y) (k:Below W.heap.size W W'):W'.cell? ⟨be,0,none⟩=some x/\W'.cell? ⟨bd,0,none⟩=some y:=
 ⟨(k.cell (p:=⟨be,0,none⟩) (block_lt_of_cell h.1)).trans h.1,(k.cell (p:=⟨bd,0,none⟩) (block_lt_of_cell h.2)).trans h.2⟩
theorem Pq.st1 (h:W.cell? ⟨be,0,none⟩=some x/\W.cell? ⟨bd,0,none⟩=some y) {t i:Nat} {v:Value} (h1:be≠t) (h2:bd≠t):(W.setCell ⟨t,i,none⟩ v).cell? ⟨be,0,none⟩=some x/\(W.setCell ⟨t,i,none⟩ v).cell? ⟨bd,0,none⟩=some y:=
 ⟨by rw [World.cell?_setCell_other _ _ _ _ (fun e=>h1 (by injection e with e;exact e.symm))];exact h.1,by rw [World.cell?_setCell_other _ _ _ _ (fun e=>h2 (by injection e with e;exact e.symm))];exact h.2⟩
theorem Pq.st5 (h:W.cell? ⟨be,0,none⟩=some x/\W.cell? ⟨bd,0,none⟩=some y) {t:Nat} {x0 x1 x2 x3 x4:Value} (h1:be≠t) (h2:bd≠t):(((((W.setCell ⟨t,0,none⟩ x0).setCell ⟨t,1,none⟩ x1).setCell ⟨t,2,none⟩ x2).setCell ⟨t,3,none⟩ x3).setCell ⟨t,4,none⟩ x4).cell? ⟨be,0,none⟩=some x/\(((((W.setCell ⟨t,0,none⟩ x0).setCell ⟨t,1,none⟩ x1).setCell ⟨t,2,none⟩ x2).setCell ⟨t,3,none⟩ x3).setCell ⟨t,4,none⟩ x4).cell? ⟨bd,0,none⟩=some y:=
 Pq.st1 (Pq.st1 (Pq.st1 (Pq.st1 (Pq.st1 h h1 h2) h1 h2) h1 h2) h1 h2) h1 h2
end
theorem take1_go (N:Nat) (caps:Array Value) (fa:Option Addr) (fn fc:Nat) (D:Dp.Dk) (R:Dp.Dk×Int) (be bd pe pd:Nat) (w:World) (hst:Stp N caps (.slice fa fn fc) D R w)
 (h1:w.cell? ⟨be,0,none⟩=some (.pointer (some ⟨pe,0,none⟩))) (h2:w.cell? ⟨bd,0,none⟩=some (.pointer (some ⟨pd,0,none⟩)))
 (he:∃T,w.heap[pe]?=some (.cells #[.int .i64 0] T (0,0))) (hd:∃A T,w.heap[pd]?=some (.cells A T (0,0))/\A[0]?=some (.slice fa fn fc)/\A[1]?=some (.int .i64 D.c)/\A[2]?=some (.bool D.a)/\A[3]?=some (.int .i64 D.l)/\A[4]?=some (.bool D.x)) (hne:pd≠pe) (hb1:be≠pd) (hb2:be≠pe) (hb3:bd≠pd) (hb4:bd≠pe):
 Calls Tryz.prog 114 #[.func (.func N) #[] caps,.pointer (some ⟨be,0,none⟩),.pointer (some ⟨bd,0,none⟩)] w fun e w'=>e= .returned (.tuple #[])/\
  ∃a n c W1,DkS w (.slice fa fn fc) R.1 (.slice a n c) W1/\w'=(set5 W1 pd (.slice a n c) (.int .i64 R.1.c) (.bool R.1.a) (.int .i64 R.1.l) (.bool R.1.x)).setCell ⟨pe,0,none⟩ (.int .i64 R.2):=by
 obtain ⟨T,he⟩:=he;obtain ⟨A,T',hd,a0,a1,a2,a3,a4⟩:=hd
 obtain ⟨c0,c1,c2,c3,c4⟩:w.cell? ⟨pd,0,none⟩=some (.slice fa fn fc)/\w.cell? ⟨pd,1,none⟩=some (.int .i64 D.c)/\w.cell? ⟨pd,2,none⟩=some (.bool D.a)/\w.cell? ⟨pd,3,none⟩=some (.int .i64 D.l)/\w.cell? ⟨pd,4,none⟩=some (.bool D.x):=
  ⟨by rw [Lib.cell_of_heap hd];exact a0,by rw [Lib.cell_of_heap hd];exact a1,by rw [Lib.cell_of_heap hd];exact a2,by rw [Lib.cell_of_heap hd];exact a3,by rw [Lib.cell_of_heap hd];exact a4⟩
 obtain ⟨e0,f0⟩:=za4 he;have A0:=zid (And.intro a0 (And.intro a1 (And.intro a2 (And.intro a3 a4))));have HD:=zid hd;have HE:=zid he;have hen:=hst.1;have HC:=zid hst.2;unfold zac at HC;clear hd he hst a0 a1 a2 a3 a4
 go_enter Tryz.func114,Tryz.ntmps114
 go_upto_region 1 with (fail)
 have CL:=zid fun (w1:World) (kw:Below w.heap.size w w1)=>(show (w1.cell? ⟨pd,0,none⟩=some (.slice fa fn fc)/\w1.cell? ⟨pd,1,none⟩=some (.int .i64 D.c)/\w1.cell? ⟨pd,2,none⟩=some (.bool D.a)/\w1.cell? ⟨pd,3,none⟩=some (.int .i64 D.l)/\w1.cell? ⟨pd,4,none⟩=some (.bool D.x))/\(w1.frozen? ⟨pd,0,none⟩=false/\w1.frozen? ⟨pd,1,none⟩=false/\w1.frozen? ⟨pd,2,none⟩=false/\w1.frozen? ⟨pd,3,none⟩=false/\w1.frozen? ⟨pd,4,none⟩=false)/\w1.cell? ⟨pe,0,none⟩=some (.int .i64 0)/\w1.frozen? ⟨pe,0,none⟩=false from by
  have hd1:=hkeep HD.out kw;have he1:=za4 (hkeep HE.out kw)
  exact ⟨⟨by rw [Lib.cell_of_heap hd1];exact A0.out.1,by rw [Lib.cell_of_heap hd1];exact A0.out.2.1,by rw [Lib.cell_of_heap hd1];exact A0.out.2.2.1,by rw [Lib.cell_of_heap hd1];exact A0.out.2.2.2.1,by rw [Lib.cell_of_heap hd1];exact A0.out.2.2.2.2⟩,
   ⟨Lib.frozen_of_heap hd1 0,Lib.frozen_of_heap hd1 1,Lib.frozen_of_heap hd1 2,Lib.frozen_of_heap hd1 3,Lib.frozen_of_heap hd1 4⟩,he1.1,he1.2⟩)
 have H1:=zid h1;have H2:=zid h2;have HNE:=zid hne
 have P2:=zid fun (W:World) (x0 x1 x2 x3 x4:Value) (h:W.cell? ⟨pe,0,none⟩=some (.int .i64 0)) (h':W.frozen? ⟨pe,0,none⟩=false)=>(show (((((W.setCell ⟨pd,0,none⟩ x0).setCell ⟨pd,1,none⟩ x1).setCell ⟨pd,2,none⟩ x2).setCell ⟨pd,3,none⟩ x3).setCell ⟨pd,4,none⟩ x4).cell? ⟨pe,0,none⟩=some (.int .i64 0)/\(((((W.setCell ⟨pd,0,none⟩ x0).setCell ⟨pd,1,none⟩ x1).setCell ⟨pd,2,none⟩ x2).setCell ⟨pd,3,none⟩ x3).setCell ⟨pd,4,none⟩ x4).frozen? ⟨pe,0,none⟩=false from
  ⟨(Pq.st5 ⟨h,h⟩ hne.symm hne.symm).1,by simpa using h'⟩)
 have HBN:=zid (And.intro hb1 (And.intro hb3 (And.intro hb2 hb4)));clear hne hb1 hb2 hb3 hb4;have h0:(fun W:World=>W.cell? ⟨be,0,none⟩=some (.pointer (some ⟨pe,0,none⟩))/\W.cell? ⟨bd,0,none⟩=some (.pointer (some ⟨pd,0,none⟩))) w.drew:=⟨H1.out,H2.out⟩;refine zgP (by kernel_rfl) (fun W:World=>W.cell? ⟨be,0,none⟩=some (.pointer (some ⟨pe,0,none⟩))/\W.cell? ⟨bd,0,none⟩=some (.pointer (some ⟨pd,0,none⟩))) 14 rfl #[false,false,false,false,false,false,false,false,false,false,false,false,false,false] rfl ?_;refine wpAnyH_take (i:=0) (v:= .pointer (some ⟨pd,0,none⟩)) rfl (by kernel_rfl) (by kernel_rfl) (by kernel_rfl) (fun _ _ _ h=>h) (Or.inl ⟨by rfl,fun W' hS=>?_⟩) h0 ?_
 · have c:=hS.2;go_simp
 simp only [Act.put,List.setIfInBounds_toArray,List.set_cons_zero];refine wpAnyH_take (i:=1) (v:= .pointer (some ⟨pe,0,none⟩)) rfl (by kernel_rfl) (by kernel_rfl) (by kernel_rfl) (fun _ _ _ h=>h) (Or.inl ⟨by rfl,fun W' hS=>?_⟩) h0 ?_
 · have c:=hS.1;go_simp
 simp only [Act.put,List.setIfInBounds_toArray,List.set_cons_zero,List.set_cons_succ];refine wpAnyH_take (i:=2) (v:= .func (.func N) #[] caps) rfl (by kernel_rfl) (by kernel_rfl) (by kernel_rfl) (fun _ _ _ h=>h) (Or.inl ⟨by rfl,fun W' hS=>?_⟩) h0 ?_
 · go_simp
 simp only [Act.put,List.setIfInBounds_toArray,List.set_cons_zero,List.set_cons_succ];refine wpAnyH_take (i:=3) (v:= .pointer (some ⟨pd,0,none⟩)) rfl (by kernel_rfl) (by kernel_rfl) (by kernel_rfl) (fun _ _ _ h=>h) (Or.inl ⟨by rfl,fun W' hS=>?_⟩) h0 ?_
 · have c:=hS.2;go_simp
 simp only [Act.put,List.setIfInBounds_toArray,List.set_cons_zero,List.set_cons_succ];refine wpAnyH_take (i:=4) (v:= .pointer (some ⟨pd,0,none⟩)) rfl (by kernel_rfl) (by kernel_rfl) (by kernel_rfl) (fun _ _ _ h=>h) (Or.inl ⟨by rfl,fun W' hS=>?_⟩) h0 ?_
 · go_simp
 simp only [Act.put,List.setIfInBounds_toArray,List.set_cons_zero,List.set_cons_succ];refine wpAnyH_ready (rs:=[5]) (by kernel_rfl) (by simp) (AllReadyH.cons rfl (fun K hK=>?_) AllReadyH.nil)
 go_simp
 refine (zid hK).out _ _ h0 (fun _=>?_);clear hK K;simp only [List.setIfInBounds_toArray,List.set_cons_zero,List.set_cons_succ];refine wpAnyH_ready (rs:=[6]) (by kernel_rfl) (by simp) (AllReadyH.cons rfl (fun K hK=>?_) AllReadyH.nil);replace hK:=zid hK
 go_simp
 refine (HC.out _ (by first | exact Below.refl _ _ | exact (Below.refl _ _).drew)).mono ?_;rintro e w1 ⟨ga,gn,gc,rfl,kk⟩;have kw:Below w.heap.size w w1:=(by first | exact kk.w | exact (Below.refl _ _).drew.trans kk.w);have KK:Hid (DkS w (.slice fa fn fc) R.1 (.slice ga gn gc) w1):=zid ⟨kk.f,kk.s,kw⟩;have s5:=Pq.keep ⟨H1.out,H2.out⟩ kw;obtain ⟨⟨r0,r1,r2,r3,r4⟩,⟨t0,t1,t2,t3,t4⟩,r5,t5⟩:=CL.out w1 kw;clear kk kw c0 c1 c2 c3 c4 e0 f0 h1 h2 h0;dsimp only;refine hK.out _ _ s5 (fun _=>?_);clear hK K;unfold zac;simp only [List.setIfInBounds_toArray,List.set_cons_zero,List.set_cons_succ];refine wpAnyH_take (i:=7) (v:= .tuple #[.agg #[.slice ga gn gc,.int .i64 R.1.c,.bool R.1.a,.int .i64 R.1.l,.bool R.1.x],.int .i64 R.2]) rfl (by kernel_rfl) (by kernel_rfl) (by kernel_rfl) (fun _ _ _ h=>h) (Or.inl ⟨by rfl,fun W' hS=>?_⟩) s5 ?_
 · go_simp
 simp only [Act.put,List.setIfInBounds_toArray,List.set_cons_zero,List.set_cons_succ];refine wpAnyH_take (i:=8) (v:= .agg #[.slice ga gn gc,.int .i64 R.1.c,.bool R.1.a,.int .i64 R.1.l,.bool R.1.x]) rfl (by kernel_rfl) (by kernel_rfl) (by kernel_rfl) (fun _ _ _ h=>h) (Or.inl ⟨by rfl,fun W' hS=>?_⟩) s5 ?_
 · go_simp
 simp only [Act.put,List.setIfInBounds_toArray,List.set_cons_zero,List.set_cons_succ];refine wpAnyH_take (i:=9) (v:= .int .i64 R.2) rfl (by kernel_rfl) (by kernel_rfl) (by kernel_rfl) (fun _ _ _ h=>h) (Or.inl ⟨by rfl,fun W' hS=>?_⟩) s5 ?_
 · go_simp
 simp only [Act.put,List.setIfInBounds_toArray,List.set_cons_zero,List.set_cons_succ];refine wpAnyH_take (i:=10) (v:= .pointer (some ⟨pd,0,none⟩)) rfl (by kernel_rfl) (by kernel_rfl) (by kernel_rfl) (fun _ _ _ h=>h) (Or.inl ⟨by rfl,fun W' hS=>?_⟩) s5 ?_
 · go_simp
 simp only [Act.put,List.setIfInBounds_toArray,List.set_cons_zero,List.set_cons_succ];refine wpAnyH_ready (rs:=[11]) (by kernel_rfl) (by simp) (AllReadyH.cons rfl (fun K hK=>?_) AllReadyH.nil);replace hK:=zid hK
 go_simp
 have s6:=Pq.st5 s5 (x0:= .slice ga gn gc) (x1:= .int .i64 R.1.c) (x2:= .bool R.1.a) (x3:= .int .i64 R.1.l) (x4:= .bool R.1.x) HBN.out.1 HBN.out.2.1;obtain ⟨r6,t6⟩:=P2.out w1 (.slice ga gn gc) (.int .i64 R.1.c) (.bool R.1.a) (.int .i64 R.1.l) (.bool R.1.x) r5 t5;refine hK.out _ _ s6 (fun _=>?_);clear hK K;obtain ⟨Z,hZ⟩:∃Z,((((w1.setCell ⟨pd,0,none⟩ (.slice ga gn gc)).setCell ⟨pd,1,none⟩ (.int .i64 R.1.c)).setCell ⟨pd,2,none⟩ (.bool R.1.a)).setCell ⟨pd,3,none⟩ (.int .i64 R.1.l)).setCell ⟨pd,4,none⟩ (.bool R.1.x)=Z:=⟨_,rfl⟩;rw [hZ] at s6 r6 t6 ⊢;have HZ:=zid hZ;have s7:=Pq.st1 s6 (i:=0) (v:= .int .i64 R.2) HBN.out.2.2.1 HBN.out.2.2.2;clear hZ r0 r1 r2 r3 r4 t0 t1 t2 t3 t4 r5 t5;refine wpAnyH_take (i:=12) (v:= .pointer (some ⟨pe,0,none⟩)) rfl (by kernel_rfl) (by kernel_rfl) (by kernel_rfl) (fun _ _ _ h=>h) (Or.inl ⟨by rfl,fun W' hS=>?_⟩) s6 ?_
 · go_simp
 simp only [Act.put,List.setIfInBounds_toArray,List.set_cons_zero,List.set_cons_succ];refine wpAnyH_ready (rs:=[13]) (by kernel_rfl) (by simp) (AllReadyH.cons rfl (fun K hK=>?_) AllReadyH.nil);replace hK:=zid hK
 go_simp
 refine hK.out _ _ s7 (fun _=>?_);clear hK K;refine wpAnyH_done (by kernel_rfl) ?_ _;clear r6 t6 s5 s6 s7;go_wp2_with fail
 go_end0
 exact ⟨rfl,_,_,_,w1,KK.out,by rw [<-HZ.out];rfl⟩
theorem Ms.start {w:World} {fv gv:Value} {lf:List Dp.Fl} {lg:List Rt.Sg} (hf:IsL FL w fv lf) (hg:IsL Rts.SL w gv lg):Ms w w.heap.size fv gv [] [(fv,lf)] [(gv,lg)] w:=
 ⟨fun p hp=>absurd hp List.not_mem_nil,fun p hp=>(by
  rw [List.mem_singleton] at hp;subst hp
  exact ⟨hf,fun q hq=>absurd hq List.not_mem_nil,fun _ _ h _=>h⟩),fun p hp=>(by
  rw [List.mem_singleton] at hp;subst hp
  exact ⟨hg,fun q hq=>absurd hq List.not_mem_nil,fun _ _ _ h=>h⟩),Nat.le_refl _,Below.refl _ _⟩
theorem Ms.dks {w W:World} {fv0:Value} {cs:List (Nat×Obj)} {fs:List (Value×List Dp.Fl)} {gs:List (Value×List Rt.Sg)} {a:Option Addr} {v:Value} {D:Dp.Dk} (h:Ms w w.heap.size fv0 (.slice a 0 0) cs fs gs W) (hm:(v,D.f)∈fs):DkS w fv0 D v W:=
 ⟨h.fl hm,fun j hj hs=>(h.f _ hm).2.2 j hj hs (Sep.nil j 0 a),h.w⟩
structure Form (A:Value->Dp.Dk->Array Value):Prop where
 get:∀v D,(A v D)[0]?=some v/\(A v D)[1]?=some (.int .i64 D.c)/\(A v D)[2]?=some (.bool D.a)/\(A v D)[3]?=some (.int .i64 D.l)/\(A v D)[4]?=some (.bool D.x)
 set:∀v D v' D',(((((A v D).setIfInBounds 0 v').setIfInBounds 1 (.int .i64 D'.c)).setIfInBounds 2 (.bool D'.a)).setIfInBounds 3 (.int .i64 D'.l)).setIfInBounds 4 (.bool D'.x)=A v' D'
def form5 (v:Value) (D:Dp.Dk):Array Value:= #[v,.int .i64 D.c,.bool D.a,.int .i64 D.l,.bool D.x]
def zlK (gv:Value) (S:St) (v:Value) (D:Dp.Dk):Array Value:= #[v,.int .i64 D.c,.bool D.a,.int .i64 D.l,.bool D.x,.int .i64 S.v,gv,.int .i64 S.x,.int .i64 S.s,.int .i64 S.z,.int .u32 S.c]
theorem zdH:Form form5:=⟨fun _ _=>⟨rfl,rfl,rfl,rfl,rfl⟩,fun _ _ _ _=>rfl⟩
theorem zhd (gv:Value) (S:St):Form (zlK gv S):=⟨fun _ _=>⟨rfl,rfl,rfl,rfl,rfl⟩,fun _ _ _ _=>rfl⟩
structure Tk (w:World) (b:Nat) (fv0 gv0:Value) (t e d:Nat) (A:Value->Dp.Dk->Array Value) (T:TypeId) (xs:List (Nat×Obj)) (gs:List (Value×List Rt.Sg)) (v:Value) (X:Dp.Dk×Int) (W:World):Prop where
 m:Ms w b fv0 gv0 ((t,.cells (A v X.1) T)::(e,.cells #[.int .i64 X.2] 31)::(d,.cells #[.pointer (some ⟨t,0,none⟩)] 127)::(d+1,.cells #[.pointer (some ⟨e,0,none⟩)] 128)::xs) [(v,X.1.f)] gs W
 n1:t≠e
 n2:t<d/\e<d
 n3:∀p∈xs,p.1≠t/\p.1≠e
section
variable {w W W':World} {b t e d:Nat} {fv0 gv0 v:Value} {A:Value->Dp.Dk->Array Value} {T:TypeId} {xs:List (Nat×Obj)} {gs:List (Value×List Rt.Sg)} {X:Dp.Dk×Int}
theorem Tk.keep (h:Tk w b fv0 gv0 t e d A T xs gs v X W) (k:Below W.heap.size W W'):Tk w b fv0 gv0 t e d A T xs gs v X W':=⟨h.m.keep k,h.n1,h.n2,h.n3⟩
theorem Tk.al (h:Tk w b fv0 gv0 t e d A T xs gs v X W) (o:Obj):Tk w b fv0 gv0 t e d A T xs gs v X (W.alloc o):=h.keep ((Below.refl _ _).alloc (Nat.le_refl _) _)
theorem Tk.al2 (h:Tk w b fv0 gv0 t e d A T xs gs v X W) (o o':Obj):Tk w b fv0 gv0 t e d A T xs gs v X ((W.alloc o).alloc o'):=(h.al o).al o'
theorem Tk.hd (h:Tk w b fv0 gv0 t e d A T xs gs v X W):W.heap[t]?=some (.cells (A v X.1) T):=h.m.at_ mcs
theorem Tk.he (h:Tk w b fv0 gv0 t e d A T xs gs v X W):W.heap[e]?=some (.cells #[.int .i64 X.2] 31):=h.m.at_ (mcm mcs)
theorem Tk.fl (h:Tk w b fv0 gv0 t e d A T xs gs v X W):IsL FL W v X.1.f:=h.m.fl mcs
theorem Tk.hx (h:Tk w b fv0 gv0 t e d A T xs gs v X W) {i:Nat} {o:Obj} (hm:(i,o)∈xs):W.heap[i]?=some o:=h.m.at_ (mcm (mcm (mcm (mcm hm))))
theorem Tk.new (h:Ms w b fv0 gv0 ((t,.cells (A v X.1) T)::(e,.cells #[.int .i64 X.2] 31)::xs) [(v,X.1.f)] gs W) (n1:t≠e) (n3:∀p∈xs,p.1≠t/\p.1≠e):
 Tk w b fv0 gv0 t e W.heap.size A T xs gs v X ((W.alloc (.cells #[.pointer (some ⟨t,0,none⟩)] 127)).alloc (.cells #[.pointer (some ⟨e,0,none⟩)] 128)):=by
 have M:=(h.alloc #[.pointer (some ⟨t,0,none⟩)] 127).alloc #[.pointer (some ⟨e,0,none⟩)] 128;rw [World.size_alloc] at M;have l1:t<W.heap.size:=h.lt mcs;have l2:e<W.heap.size:=h.lt (mcm mcs);refine ⟨M.sub (fun p hp=>?_) (fun _ hp=>hp) (fun _ hp=>hp),n1,⟨l1,l2⟩,n3⟩;simp only [List.mem_cons] at hp ⊢
 rcases hp with hp | hp | hp | hp | hp
 · exact .inr (.inr (.inl hp))
 · exact .inr (.inr (.inr (.inl hp)))
 · exact .inr (.inl hp)
 · exact .inl hp
 · exact .inr (.inr (.inr (.inr hp)))
theorem Tk.take {a:Option Addr} {n c:Nat} (hF:Form A) (h:Tk w b fv0 gv0 t e d A T xs gs (.slice a n c) X W) {N:Nat} {caps:Array Value} {R:Dp.Dk×Int} (hst:Stp N caps (.slice a n c) X.1 R W):
 Calls Tryz.prog 114 #[.func (.func N) #[] caps,.pointer (some ⟨d+1,0,none⟩),.pointer (some ⟨d,0,none⟩)] W fun en W'=>en= .returned (.tuple #[])/\∃a' n' c',Tk w b fv0 gv0 t e d A T xs gs (.slice a' n' c') (tk X R) W':=by
 obtain ⟨D,E⟩:=X;have g0:=h.hd;have g1:=h.he;have g2:W.heap[d]?=some (.cells #[.pointer (some ⟨t,0,none⟩)] 127):=h.m.at_ (mcm (mcm mcs));have g3:W.heap[d+1]?=some (.cells #[.pointer (some ⟨e,0,none⟩)] 128):=h.m.at_ (mcm (mcm (mcm mcs)));have n2:=h.n2
 by_cases hE:E=0
 · subst hE
   rw [zd1]
   have hA:=hF.get (.slice a n c) D;refine (take1_go N caps a n c D R (d+1) d e t W hst (za4 g3).1 (za4 g2).1 ⟨_,g1⟩ ⟨_,_,g0,hA⟩ h.n1 (by omega) (by omega) (by omega) (by omega)).mono ?_;rintro en W' ⟨rfl,a',n',c',W1,k,rfl⟩;refine ⟨rfl,a',n',c',?_⟩;have M1:=h.m.call (D':=R.1) mcs k
   have s0:(set5 W1 t (.slice a' n' c') (.int .i64 R.1.c) (.bool R.1.a) (.int .i64 R.1.l) (.bool R.1.x)).heap[t]?=some (.cells (A (.slice a' n' c') R.1) T (0,0)):=by
    rw [<-hF.set (.slice a n c) D];exact heap_setCell_same _ _ 4 _ _ _ (heap_setCell_same _ _ 3 _ _ _ (heap_setCell_same _ _ 2 _ _ _ (heap_setCell_same _ _ 1 _ _ _ (heap_setCell_same _ _ 0 _ _ _ (hkeep g0 k.w)))))
   have M2:=M1.write (cs':=(t,.cells (A (.slice a' n' c') R.1) T)::(e,.cells #[.int .i64 0] 31)::(d,.cells #[.pointer (some ⟨t,0,none⟩)] 127)::(d+1,.cells #[.pointer (some ⟨e,0,none⟩)] 128)::xs) mcs (zfm W1 t _ _ _ _ _) s0 (fun p hp=>by
    simp only [List.mem_cons] at hp ⊢
    rcases hp with rfl | rfl | rfl | rfl | hp
    · exact .inl rfl
    · exact .inr ⟨.inr (.inl rfl),h.n1.symm⟩
    · exact .inr ⟨.inr (.inr (.inl rfl)),by show d≠t;omega⟩
    · exact .inr ⟨.inr (.inr (.inr (.inl rfl))),by show d+1≠t;omega⟩
    · exact .inr ⟨.inr (.inr (.inr (.inr hp))),(h.n3 p hp).1⟩)
   obtain ⟨Z,hZ,M3⟩:=M2.lay1 (cs':=(t,.cells (A (.slice a' n' c') R.1) T)::(e,.cells #[.int .i64 R.2] 31)::(d,.cells #[.pointer (some ⟨t,0,none⟩)] 127)::(d+1,.cells #[.pointer (some ⟨e,0,none⟩)] 128)::xs) (mcm mcs) 0 (.int .i64 R.2) (fun p hp=>by
    simp only [List.mem_cons] at hp ⊢
    rcases hp with rfl | rfl | rfl | rfl | hp
    · exact .inr ⟨.inl rfl,h.n1⟩
    · exact .inl rfl
    · exact .inr ⟨.inr (.inr (.inl rfl)),by show d≠e;omega⟩
    · exact .inr ⟨.inr (.inr (.inr (.inl rfl))),by show d+1≠e;omega⟩
    · exact .inr ⟨.inr (.inr (.inr (.inr hp))),(h.n3 p hp).2⟩)
   rw [<-hZ] at M3;exact ⟨M3.sub (fun _ hp=>hp) (fun p hp=>by rw [List.mem_singleton] at hp;rw [hp];exact mcs) (fun _ hp=>hp),h.n1,h.n2,h.n3⟩
 · rw [zcP (show ((D,E):Dp.Dk×Int).2≠0 from hE)]
   refine (take1_no _ (d+1) d e E hE W (za4 g3).1 (za4 g1).1).mono ?_
   rintro en W' ⟨rfl,rfl⟩;exact ⟨rfl,_,_,_,h⟩
end
section
variable {fa:Option Addr} {fn fc:Nat} {D:Dp.Dk} {k:Nat} {W:World}
theorem ze3 {N:Nat} {caps:Array Value} {fv:Value} {R:Dp.Dk×Int} (en:∀args w,(callFunc N args).run Tryz.prog w= .ok (.enter N args) w) (h:∀W',Below W.heap.size W W'->Calls Tryz.prog N (#[zac fv D]++caps) W' (za2 W' fv R)):Stp N caps fv D R W:=⟨en,h⟩
theorem al_at (W:World) (A:Array Value) (T:TypeId):(W.alloc (.cells A T)).heap[W.heap.size]?=some (.cells A T (0,0)):=heap_alloc_new W _
theorem zaC (W:World) (o:Obj):Below W.heap.size W (W.alloc o):=(Below.refl _ _).alloc (Nat.le_refl _) _
theorem zd8 (h:Bd D k) (hk:k<=200000) (n:ByteArray) (hn:n.size<=3000) (hv:IsL FL W (.slice fa fn fc) D.f):Stp 115 #[.pointer (some ⟨W.heap.size,0,none⟩)] (.slice fa fn fc) D (Dp.create D n) (W.alloc (.cells #[.string n] 9)):=
 ze3 (enters Tryz.func115 (by kernel_rfl) (by rfl)) fun W' b=>created1 fa fn fc D n W.heap.size _ W' ((hv.keep (zaC W _)).keep b) (hkeep (al_at W _ _) b) fun W'' b'=>create_s h hk n hn (((hv.keep (zaC W _)).keep b).keep b')
theorem zhG (h:Bd D k) (hk:k<=200000) (n:ByteArray) (hv:IsL FL W (.slice fa fn fc) D.f):Stp 159 #[.pointer (some ⟨W.heap.size,0,none⟩)] (.slice fa fn fc) D (Dp.delete D n) (W.alloc (.cells #[.string n] 9)):=
 ze3 (enters Tryz.func159 (by kernel_rfl) (by rfl)) fun W' b=>deleted1 fa fn fc D n W.heap.size _ W' ((hv.keep (zaC W _)).keep b) (hkeep (al_at W _ _) b) fun W'' b'=>zgb h hk n (((hv.keep (zaC W _)).keep b).keep b')
theorem zjs (h:Bd D k) (hk:k<=200000) (n:ByteArray) (hv:IsL FL W (.slice fa fn fc) D.f):Stp 162 #[.pointer (some ⟨W.heap.size,0,none⟩)] (.slice fa fn fc) D (Dp.sync D n) (W.alloc (.cells #[.string n] 9)):=
 ze3 (enters Tryz.func162 (by kernel_rfl) (by rfl)) fun W' b=>synced1 fa fn fc D n W.heap.size _ W' ((hv.keep (zaC W _)).keep b) (hkeep (al_at W _ _) b) fun W'' b'=>sync_s h hk n (((hv.keep (zaC W _)).keep b).keep b')
theorem zdR (W:World) (o o':Obj):Below W.heap.size W ((W.alloc o).alloc o'):=(zaC W o).alloc (zaC W o).size _
theorem al_at2 (W:World) (A:Array Value) (T:TypeId) (o:Obj):((W.alloc (.cells A T)).alloc o).heap[W.heap.size]?=some (.cells A T (0,0)):=halloc (heap_alloc_new W _)
theorem al_at3 (W:World) (A:Array Value) (T:TypeId) (o:Obj):((W.alloc o).alloc (.cells A T)).heap[W.heap.size+1]?=some (.cells A T (0,0)):=by
 have:=heap_alloc_new (W.alloc o) (.cells A T)
 rwa [World.size_alloc] at this
theorem zgy (h:Bd D k) (hk:k<=200000) (n s:ByteArray) (hs:s.size<=3000) (hv:IsL FL W (.slice fa fn fc) D.f):Stp 160 #[.pointer (some ⟨W.heap.size,0,none⟩),.pointer (some ⟨W.heap.size+1,0,none⟩)] (.slice fa fn fc) D (Dp.append D n s) ((W.alloc (.cells #[.string n] 9)).alloc (.cells #[.string s] 9)):=
 ze3 (enters Tryz.func160 (by kernel_rfl) (by rfl)) fun W' b=>zmc fa fn fc D n s W.heap.size (W.heap.size+1) _ W' ((hv.keep (zdR W _ _)).keep b) (hkeep (al_at2 W _ _ _) b) (hkeep (al_at3 W _ _ _) b) fun W'' b'=>append_s h hk n s hs (((hv.keep (zdR W _ _)).keep b).keep b')
theorem zhF (h:Bd D k) (hk:k<=200000) (n s:ByteArray) (hs:s.size<=3000) (hv:IsL FL W (.slice fa fn fc) D.f):Stp 163 #[.pointer (some ⟨W.heap.size,0,none⟩),.pointer (some ⟨W.heap.size+1,0,none⟩)] (.slice fa fn fc) D (Dp.rename D n s) ((W.alloc (.cells #[.string n] 9)).alloc (.cells #[.string s] 9)):=
 ze3 (enters Tryz.func163 (by kernel_rfl) (by rfl)) fun W' b=>renamed1 fa fn fc D n s W.heap.size (W.heap.size+1) _ W' ((hv.keep (zdR W _ _)).keep b) (hkeep (al_at2 W _ _ _) b) (hkeep (al_at3 W _ _ _) b) fun W'' b'=>rename_s h hk n s hs (((hv.keep (zdR W _ _)).keep b).keep b')
theorem zma {X R:Dp.Dk×Int} {k:Nat} (h:Bd X.1 k) (hR:Bd R.1 (k+1)):Bd (tk X R).1 (k+1):=by
 unfold tk
 split
 · exact hR
 · exact h.mono (Nat.le_succ k)
end
end Sto
namespace Dsk
open Go.RowKit Dp
def SL:Lay ByteArray where
 enc:=fun s=>[.string s]
 k:=1
 len:=fun _=>rfl
 one:=by intro f u hu;simp at hu;rw [hu];rfl
 pos:=by decide
 T:=9
 ok:=fun _=>True
 z:=⟨#[]⟩
theorem zie:(Tryz.prog.info? 9).map (fun i=>(i.zero,i.size,i.bytes))=some (some (.string ByteArray.empty),1,16):=by kernel_rfl
theorem sl_at {w:World} {a:Option Addr} {n cap:Nat} {l:List ByteArray} (h:IsL SL w (.slice a n cap) l) {i:Nat} (hi:i<n):∃b off,a=some ⟨b,off,none⟩/\w.cell? ⟨b,off+i,none⟩=some (.string (l.getD i ⟨#[]⟩)):=by
 have h':=h;obtain ⟨a',cap',e,_,_,h3⟩:=h
 injection e with e1 e2 e3
 rcases h3 with h3 | ⟨b,off,h4,_⟩
 · rw [h3] at e2;simp at e2;omega
 · subst e1
   subst h4
   refine ⟨b,off,rfl,?_⟩;have:=h'.at_ hi 0 _ rfl
   simpa [SL] using this
theorem zfd (l:List Fl) {k:Nat} (h:k<l.length):(l.map (·.n)).take (k+1)=(l.map (·.n)).take k++[(l.getD k zero).n]:=by
 rw [List.take_succ_eq_append_getElem (by rw [List.length_map];exact h),List.getElem_map,zaF h]
theorem zlf (fv:Value) (D:Dk) (w:World) (hv:IsL FL w fv D.f) (hl:D.f.length<=1000000000):
 Calls Tryz.prog 83 #[zac fv D] w (OutL SL w w.heap.size (D.f.map (·.n))):=by
 obtain ⟨i0,hi0,hz0,hz1,hz2⟩:=info_parts zie
 obtain ⟨fa,fn,fc,rfl⟩:∃a n c,fv= .slice a n c:=by obtain ⟨a,c,h,_⟩:=hv;exact ⟨a,_,c,h⟩
 have HV:=zid hv;have hfl:=hv.len.1;have HT:=zid fun k (hk:k<D.f.length)=>zfd D.f hk;have HA:=zid (show ∀k,D.f.length<=k->(D.f.map (·.n)).take k=D.f.map (·.n) from fun k hk=>by rw [List.take_of_length_le (by rw [List.length_map];exact hk)]);have HLEN:=zid (show ∀k,((D.f.map (·.n)).take k).length<=k from fun k=>by rw [List.length_take];omega);have G0:=zid (heap_alloc_new w (.cells #[.slice fa fn fc,.int .i64 D.c,.bool D.a,.int .i64 D.l,.bool D.x] 24));have B0:=zid ((Below.refl w.heap.size w).alloc (Nat.le_refl _) (.cells #[.slice fa fn fc,.int .i64 D.c,.bool D.a,.int .i64 D.l,.bool D.x] 24));obtain ⟨fl,dc,da,dl,dx⟩:=D;dsimp only at*;rw [<-hfl] at hl HT HA;clear hfl hv;unfold zac;dsimp only;obtain ⟨q0,q1,q2,q3,q4⟩:=zaa G0.out
 go_enter Tryz.func83,Tryz.ntmps83
 go_wp2_with fail;generalize World.alloc w _=w0 at G0 B0 q0 q1 q2 q3 q4 ⊢;have hs0:=(Array.getElem?_eq_some_iff.1 G0.out).1
 go_loopw [3,9] (fun s i wr=>∃k:Nat,k<=fn/\i= .int .i64 k/\OwnL SL wr w0.heap.size s ((fl.map (·.n)).take k)/\Below w0.heap.size w0 wr) (fun _ i _=>fn-(intOf i).toNat)
 case atStart=>exact ⟨0,Nat.zero_le _,rfl,by rw [List.take_zero];exact OwnL.nil _ _,Below.refl _ _⟩
 case round=>
  clear q0 q1 q2 q3 q4;obtain ⟨k,hk,rfl,hO,bel⟩:=hrel;have HO:=zid hO;have hh:=hkeep G0.out bel;obtain ⟨p0,p1,p2,p3,p4⟩:=zaa hh;have hwl:=(Array.getElem?_eq_some_iff.1 hh).1;clear hO hh
  by_cases hlt:k<fn
  · obtain ⟨b,off,rfl,c0,c1,c2⟩:=zb0 (HV.out.keep (B0.out.trans (bel.mono B0.out.size))) hlt
    have HTk:=HT.out k hlt
    have hlk:=HLEN.out k;have hbel:=bel.size;have hgl:=block_lt_of_cell c0;generalize fl.getD k zero=f at*;generalize (fl.map (·.n)).take k=L at*;replace HTk:=zid HTk;have HF:Hid (∀v' w3,w3.ownsRow w0.heap.size 9 1 v' (L.length+1) (SL.vals L++[.string f.n])->OwnL SL w3 w0.heap.size v' (L++[f.n])):=fun v' w3 h=>OwnL.snoc (n:=L.length) h rfl rfl;have HB2:=zid (show Below wr.heap.size wr (wr.alloc (.cells #[.string f.n,.string f.d,.int .i64 f.s] 45)) from (Below.refl _ wr).alloc (Nat.le_refl _) _);have HOX:=zid (show ((wr.alloc (.cells #[.string f.n,.string f.d,.int .i64 f.s] 45)).alloc (.cells [Value.string f.n].toArray 9)).ownsRow w0.heap.size 9 1 u3 L.length (SL.vals L) from (HO.out.keep HB2.out).alloc _);have HLT:=zid fun k' (h:_)=>HO.out.lt k' h;have HBW:=zid ((bel.trans (HB2.out.mono hbel)).alloc (Nat.le_trans hbel HB2.out.size) (.cells [Value.string f.n].toArray 9));have HNEW:=zid (zas (wr.alloc (.cells #[.string f.n,.string f.d,.int .i64 f.s] 45)) (wr.heap.size+1) [Value.string f.n] 9 (by simp));have H1:=zid (show ∀u∈[Value.string f.n],u.oneCell'=true from SL.one f.n);generalize hxs:SL.vals L=xs at*;generalize hll:L.length=ll at*;clear hxs hll
    go_wp2_with (at_builtin;refine wpList_append_own _ rfl _ _ 68 rfl w0.heap.size 9 i0 (.string ByteArray.empty) 1 16 Tryz.underlying68 hi0 hz0 hz1 hz2 rfl (by decide) _ _ _ rfl HOX.out ⟨wr.heap.size+1,0,none⟩ 1 1 [Value.string f.n] rfl rfl HNEW.out H1.out (by unfold maxLen;omega) (by omega) (by simp;omega) ?_;intro v' w3 hown' hgrow3 hnil3)
    go_roundw
    case rel=>
     exact ⟨k+1,by omega,by go_num,by rw [HTk.out];exact HF.out v' w3 hown',HBW.out.grown hgrow3 (by simp;omega) (fun q hq=>(HLT.out q hq).1)⟩
    case measure=>simp [intOf];omega
  · have HF:=HA.out k (by omega)
    have HOO:=HO.out
    rw [HF] at HOO;have HOO:=zid (zaW HOO B0.out.size);have HG:=zid (fun v (h:OwnL SL wr w.heap.size v (fl.map (·.n)))=>OutL.mk (w:=w) h (B0.out.trans (bel.mono B0.out.size)));clear HF;go_wp2_with fail;go_ret;exact HG.out _ HOO.out
theorem zjE (fv:Value) (D:Dk) (w:World) (hv:IsL FL w fv D.f) (hl:D.f.length<=1000000000):
 Calls Tryz.prog 65 #[zac fv D] w (OutL SL w w.heap.size (D.f.map (·.n))):=by
 obtain ⟨i0,hi0,hz0,hz1,hz2⟩:=info_parts zie
 obtain ⟨fa,fn,fc,rfl⟩:∃a n c,fv= .slice a n c:=by obtain ⟨a,c,h,_⟩:=hv;exact ⟨a,_,c,h⟩
 have HV:=zid hv;have hfl:=hv.len.1;have HT:=zid fun k (hk:k<D.f.length)=>zfd D.f hk;have HA:=zid (show ∀k,D.f.length<=k->(D.f.map (·.n)).take k=D.f.map (·.n) from fun k hk=>by rw [List.take_of_length_le (by rw [List.length_map];exact hk)]);have HLEN:=zid (show ∀k,((D.f.map (·.n)).take k).length<=k from fun k=>by rw [List.length_take];omega);have G0:=zid (heap_alloc_new w (.cells #[.slice fa fn fc,.int .i64 D.c,.bool D.a,.int .i64 D.l,.bool D.x] 24));have B0:=zid ((Below.refl w.heap.size w).alloc (Nat.le_refl _) (.cells #[.slice fa fn fc,.int .i64 D.c,.bool D.a,.int .i64 D.l,.bool D.x] 24));obtain ⟨fl,dc,da,dl,dx⟩:=D;dsimp only at*;rw [<-hfl] at hl HT HA;clear hfl hv;unfold zac;dsimp only;obtain ⟨q0,q1,q2,q3,q4⟩:=zaa G0.out
 go_enter Tryz.func65,Tryz.ntmps65
 go_wp2_with fail;generalize World.alloc w _=w0 at G0 B0 q0 q1 q2 q3 q4 ⊢;have hs0:=(Array.getElem?_eq_some_iff.1 G0.out).1
 go_loopw [3,4] (fun s i wr=>∃k:Nat,k<=fn/\i= .int .i64 k/\OwnL SL wr w0.heap.size s ((fl.map (·.n)).take k)/\Below w0.heap.size w0 wr) (fun _ i _=>fn-(intOf i).toNat)
 case atStart=>exact ⟨0,Nat.zero_le _,rfl,by rw [List.take_zero];exact OwnL.nil _ _,Below.refl _ _⟩
 case round=>
  clear q0 q1 q2 q3 q4;obtain ⟨k,hk,rfl,hO,bel⟩:=hrel;have HO:=zid hO;have hh:=hkeep G0.out bel;obtain ⟨p0,p1,p2,p3,p4⟩:=zaa hh;have hwl:=(Array.getElem?_eq_some_iff.1 hh).1;clear hO hh
  by_cases hlt:k<fn
  · obtain ⟨b,off,rfl,c0,c1,c2⟩:=zb0 (HV.out.keep (B0.out.trans (bel.mono B0.out.size))) hlt
    have HTk:=HT.out k hlt
    have hlk:=HLEN.out k;have hbel:=bel.size;have hgl:=block_lt_of_cell c0;generalize fl.getD k zero=f at*;generalize (fl.map (·.n)).take k=L at*;replace HTk:=zid HTk;have HF:Hid (∀v' w3,w3.ownsRow w0.heap.size 9 1 v' (L.length+1) (SL.vals L++[.string f.n])->OwnL SL w3 w0.heap.size v' (L++[f.n])):=fun v' w3 h=>OwnL.snoc (n:=L.length) h rfl rfl;have HB2:=zid (show Below wr.heap.size wr (wr) from Below.refl _ _);have HOX:=zid (show ((wr).alloc (.cells [Value.string f.n].toArray 9)).ownsRow w0.heap.size 9 1 u3 L.length (SL.vals L) from (HO.out.keep HB2.out).alloc _);have HLT:=zid fun k' (h:_)=>HO.out.lt k' h;have HBW:=zid ((bel.trans (HB2.out.mono hbel)).alloc (Nat.le_trans hbel HB2.out.size) (.cells [Value.string f.n].toArray 9));have HNEW:=zid (zas (wr) (wr.heap.size) [Value.string f.n] 9 (by simp));have H1:=zid (show ∀u∈[Value.string f.n],u.oneCell'=true from SL.one f.n);generalize hxs:SL.vals L=xs at*;generalize hll:L.length=ll at*;clear hxs hll
    go_wp2_with (at_builtin;refine wpList_append_own _ rfl _ _ 68 rfl w0.heap.size 9 i0 (.string ByteArray.empty) 1 16 Tryz.underlying68 hi0 hz0 hz1 hz2 rfl (by decide) _ _ _ rfl HOX.out ⟨wr.heap.size,0,none⟩ 1 1 [Value.string f.n] rfl rfl HNEW.out H1.out (by unfold maxLen;omega) (by omega) (by simp;omega) ?_;intro v' w3 hown' hgrow3 hnil3)
    go_roundw
    case rel=>
     exact ⟨k+1,by omega,by go_num,by rw [HTk.out];exact HF.out v' w3 hown',HBW.out.grown hgrow3 (by simp;omega) (fun q hq=>(HLT.out q hq).1)⟩
    case measure=>simp [intOf];omega
  · have HF:=HA.out k (by omega)
    have HOO:=HO.out
    rw [HF] at HOO;have HOO:=zid (zaW HOO B0.out.size);have HG:=zid (fun v (h:OwnL SL wr w.heap.size v (fl.map (·.n)))=>OutL.mk (w:=w) h (B0.out.trans (bel.mono B0.out.size)));clear HF;go_wp2_with fail;go_ret;exact HG.out _ HOO.out
end Dsk
end Go.Proofs.YtooipogbmfkeeaaGreat

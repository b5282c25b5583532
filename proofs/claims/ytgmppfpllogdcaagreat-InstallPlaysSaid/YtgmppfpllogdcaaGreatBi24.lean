/-
  Parts of what the laws of this seat stand on:StoTkm,DiskNames,RoCl,RecVal,RecPut,RecRef.
-/
import Derived.BigQuiet
import Derived.Deep.DeepCutAuto
import Derived.Deep.QuietTactic
import Derived.IntWalk
import Derived.Maps.OwnSet
import Derived.Test.YtgmppfpllogdcaaGreatBi1
import Derived.Test.YtgmppfpllogdcaaGreatBi12
import Derived.Test.YtgmppfpllogdcaaGreatBi15
import Derived.Test.YtgmppfpllogdcaaGreatBi16
import Derived.Test.YtgmppfpllogdcaaGreatBi17
import Derived.Test.YtgmppfpllogdcaaGreatBi19
import Derived.Test.YtgmppfpllogdcaaGreatBi2
import Derived.Test.YtgmppfpllogdcaaGreatBi23
set_option maxRecDepth 100000
set_option maxHeartbeats 6400000
namespace Go.Proofs.YtgmppfpllogdcaaGreat
namespace Sto
open Go.RowKit So Dsk Rts
theorem Ms.start {w:World} {fv gv:Value} {lf:List Dp.Fl} {lg:List Rt.Sg} (hf:IsL FL w fv lf) (hg:IsL Rts.SL w gv lg):Ms w w.heap.size fv gv [] [(fv,lf)] [(gv,lg)] w:=
 ⟨fun p hp=>absurd hp List.not_mem_nil,fun p hp=>(by
  rw [List.mem_singleton] at hp;subst hp
  exact ⟨hf,fun q hq=>absurd hq List.not_mem_nil,fun _ _ h _=>h⟩),fun p hp=>(by
  rw [List.mem_singleton] at hp;subst hp
  exact ⟨hg,fun q hq=>absurd hq List.not_mem_nil,fun _ _ _ h=>h⟩),Nat.le_refl _,Below.refl _ _⟩
theorem Ms.dks {w W:World} {fv0:Value} {cs:List (Nat×Obj)} {fs:List (Value×List Dp.Fl)} {gs:List (Value×List Rt.Sg)} {a:Option Addr} {v:Value} {D:Dp.Dk} (h:Ms w w.heap.size fv0 (.slice a 0 0) cs fs gs W) (hm:(v,D.f)∈fs):DkS w fv0 D v W:=
 ⟨h.fl hm,fun j hj hs=>(h.f _ hm).2.2 j hj hs (Sep.nil j 0 a),h.w⟩
structure Form (A:Value->Dp.Dk->Array Value):Prop where
 get:∀v D,(A v D)[0]?=some v/\(A v D)[1]?=some (.int .i64 D.c)/\(A v D)[2]?=some (.bool D.a)/\(A v D)[3]?=some (.int .i64 D.l)/\(A v D)[4]?=some (.bool D.x)
 set:∀v D v' D',(((((A v D).setIfInBounds 0 v').setIfInBounds 1 (.int .i64 D'.c)).setIfInBounds 2 (.bool D'.a)).setIfInBounds 3 (.int .i64 D'.l)).setIfInBounds 4 (.bool D'.x)=A v' D'
def form5 (v:Value) (D:Dp.Dk):Array Value:= #[v,.int .i64 D.c,.bool D.a,.int .i64 D.l,.bool D.x]
theorem zdy:Form form5:=⟨fun _ _=>⟨rfl,rfl,rfl,rfl,rfl⟩,fun _ _ _ _=>rfl⟩
structure Tk (w:World) (b:Nat) (fv0 gv0:Value) (t e d:Nat) (A:Value->Dp.Dk->Array Value) (T:TypeId) (xs:List (Nat×Obj)) (gs:List (Value×List Rt.Sg)) (v:Value) (X:Dp.Dk×Int) (W:World):Prop where
 m:Ms w b fv0 gv0 ((t,.cells (A v X.1) T)::(e,.cells #[.int .i64 X.2] 35)::(d,.cells #[.pointer (some ⟨t,0,none⟩)] 162)::(d+1,.cells #[.pointer (some ⟨e,0,none⟩)] 163)::xs) [(v,X.1.f)] gs W
 n1:t≠e
 n2:t<d/\e<d
 n3:∀p∈xs,p.1≠t/\p.1≠e
section
variable {w W W':World} {b t e d:Nat} {fv0 gv0 v:Value} {A:Value->Dp.Dk->Array Value} {T:TypeId} {xs:List (Nat×Obj)} {gs:List (Value×List Rt.Sg)} {X:Dp.Dk×Int}
theorem Tk.keep (h:Tk w b fv0 gv0 t e d A T xs gs v X W) (k:Below W.heap.size W W'):Tk w b fv0 gv0 t e d A T xs gs v X W':=⟨h.m.keep k,h.n1,h.n2,h.n3⟩
theorem Tk.al (h:Tk w b fv0 gv0 t e d A T xs gs v X W) (o:Obj):Tk w b fv0 gv0 t e d A T xs gs v X (W.alloc o):=h.keep ((Below.refl _ _).alloc (Nat.le_refl _) _)
theorem Tk.al2 (h:Tk w b fv0 gv0 t e d A T xs gs v X W) (o o':Obj):Tk w b fv0 gv0 t e d A T xs gs v X ((W.alloc o).alloc o'):=(h.al o).al o'
theorem Tk.hd (h:Tk w b fv0 gv0 t e d A T xs gs v X W):W.heap[t]?=some (.cells (A v X.1) T):=h.m.at_ mcs
theorem Tk.he (h:Tk w b fv0 gv0 t e d A T xs gs v X W):W.heap[e]?=some (.cells #[.int .i64 X.2] 35):=h.m.at_ (mcm mcs)
theorem Tk.fl (h:Tk w b fv0 gv0 t e d A T xs gs v X W):IsL FL W v X.1.f:=h.m.fl mcs
theorem Tk.hx (h:Tk w b fv0 gv0 t e d A T xs gs v X W) {i:Nat} {o:Obj} (hm:(i,o)∈xs):W.heap[i]?=some o:=h.m.at_ (mcm (mcm (mcm (mcm hm))))
theorem Tk.new (h:Ms w b fv0 gv0 ((t,.cells (A v X.1) T)::(e,.cells #[.int .i64 X.2] 35)::xs) [(v,X.1.f)] gs W) (n1:t≠e) (n3:∀p∈xs,p.1≠t/\p.1≠e):
 Tk w b fv0 gv0 t e W.heap.size A T xs gs v X ((W.alloc (.cells #[.pointer (some ⟨t,0,none⟩)] 162)).alloc (.cells #[.pointer (some ⟨e,0,none⟩)] 163)):=by
 have M:=(h.alloc #[.pointer (some ⟨t,0,none⟩)] 162).alloc #[.pointer (some ⟨e,0,none⟩)] 163;rw [World.size_alloc] at M;have l1:t<W.heap.size:=h.lt mcs;have l2:e<W.heap.size:=h.lt (mcm mcs);refine ⟨M.sub (fun p hp=>?_) (fun _ hp=>hp) (fun _ hp=>hp),n1,⟨l1,l2⟩,n3⟩;simp only [List.mem_cons] at hp ⊢
 rcases hp with hp | hp | hp | hp | hp
 · exact .inr (.inr (.inl hp))
 · exact .inr (.inr (.inr (.inl hp)))
 · exact .inr (.inl hp)
 · exact .inl hp
 · exact .inr (.inr (.inr (.inr hp)))
theorem Tk.take {a:Option Addr} {n c:Nat} (hF:Form A) (h:Tk w b fv0 gv0 t e d A T xs gs (.slice a n c) X W) {N:Nat} {caps:Array Value} {R:Dp.Dk×Int} (hst:Stp N caps (.slice a n c) X.1 R W):
 Calls Tryz.prog 146 #[.func (.func N) #[] caps,.pointer (some ⟨d+1,0,none⟩),.pointer (some ⟨d,0,none⟩)] W fun en W'=>en= .returned (.tuple #[])/\∃a' n' c',Tk w b fv0 gv0 t e d A T xs gs (.slice a' n' c') (tk X R) W':=by
 obtain ⟨D,E⟩:=X;have g0:=h.hd;have g1:=h.he;have g2:W.heap[d]?=some (.cells #[.pointer (some ⟨t,0,none⟩)] 162):=h.m.at_ (mcm (mcm mcs));have g3:W.heap[d+1]?=some (.cells #[.pointer (some ⟨e,0,none⟩)] 163):=h.m.at_ (mcm (mcm (mcm mcs)));have n2:=h.n2
 by_cases hE:E=0
 · subst hE
   rw [zfm]
   have hA:=hF.get (.slice a n c) D;refine (take1_go N caps a n c D R (d+1) d e t W hst (zaE g3).1 (zaE g2).1 ⟨_,g1⟩ ⟨_,_,g0,hA⟩ h.n1 (by omega) (by omega) (by omega) (by omega)).mono ?_;rintro en W' ⟨rfl,a',n',c',W1,k,rfl⟩;refine ⟨rfl,a',n',c',?_⟩;have M1:=h.m.call (D':=R.1) mcs k
   have s0:(set5 W1 t (.slice a' n' c') (.int .i64 R.1.c) (.bool R.1.a) (.int .i64 R.1.l) (.bool R.1.x)).heap[t]?=some (.cells (A (.slice a' n' c') R.1) T (0,0)):=by
    rw [<-hF.set (.slice a n c) D];exact heap_setCell_same _ _ 4 _ _ _ (heap_setCell_same _ _ 3 _ _ _ (heap_setCell_same _ _ 2 _ _ _ (heap_setCell_same _ _ 1 _ _ _ (heap_setCell_same _ _ 0 _ _ _ (hkeep g0 k.w)))))
   have M2:=M1.write (cs':=(t,.cells (A (.slice a' n' c') R.1) T)::(e,.cells #[.int .i64 0] 35)::(d,.cells #[.pointer (some ⟨t,0,none⟩)] 162)::(d+1,.cells #[.pointer (some ⟨e,0,none⟩)] 163)::xs) mcs (ze9 W1 t _ _ _ _ _) s0 (fun p hp=>by
    simp only [List.mem_cons] at hp ⊢
    rcases hp with rfl | rfl | rfl | rfl | hp
    · exact .inl rfl
    · exact .inr ⟨.inr (.inl rfl),h.n1.symm⟩
    · exact .inr ⟨.inr (.inr (.inl rfl)),by show d≠t;omega⟩
    · exact .inr ⟨.inr (.inr (.inr (.inl rfl))),by show d+1≠t;omega⟩
    · exact .inr ⟨.inr (.inr (.inr (.inr hp))),(h.n3 p hp).1⟩)
   obtain ⟨Z,hZ,M3⟩:=M2.lay1 (cs':=(t,.cells (A (.slice a' n' c') R.1) T)::(e,.cells #[.int .i64 R.2] 35)::(d,.cells #[.pointer (some ⟨t,0,none⟩)] 162)::(d+1,.cells #[.pointer (some ⟨e,0,none⟩)] 163)::xs) (mcm mcs) 0 (.int .i64 R.2) (fun p hp=>by
    simp only [List.mem_cons] at hp ⊢
    rcases hp with rfl | rfl | rfl | rfl | hp
    · exact .inr ⟨.inl rfl,h.n1⟩
    · exact .inl rfl
    · exact .inr ⟨.inr (.inr (.inl rfl)),by show d≠e;omega⟩
    · exact .inr ⟨.inr (.inr (.inr (.inl rfl))),by show d+1≠e;omega⟩
    · exact .inr ⟨.inr (.inr (.inr (.inr hp))),(h.n3 p hp).2⟩)
   rw [<-hZ] at M3;exact ⟨M3.sub (fun _ hp=>hp) (fun p hp=>by rw [List.mem_singleton] at hp;rw [hp];exact mcs) (fun _ hp=>hp),h.n1,h.n2,h.n3⟩
 · rw [zdj (show ((D,E):Dp.Dk×Int).2≠0 from hE)]
   refine (take1_no _ (d+1) d e E hE W (zaE g3).1 (zaE g1).1).mono ?_
   rintro en W' ⟨rfl,rfl⟩;exact ⟨rfl,_,_,_,h⟩
end
section
variable {fa:Option Addr} {fn fc:Nat} {D:Dp.Dk} {k:Nat} {W:World}
theorem zga {N:Nat} {caps:Array Value} {fv:Value} {R:Dp.Dk×Int} (en:∀args w,(callFunc N args).run Tryz.prog w= .ok (.enter N args) w) (h:∀W',Below W.heap.size W W'->Calls Tryz.prog N (#[zac fv D]++caps) W' (zaL W' fv R)):Stp N caps fv D R W:=⟨en,h⟩
theorem al_at (W:World) (A:Array Value) (T:TypeId):(W.alloc (.cells A T)).heap[W.heap.size]?=some (.cells A T (0,0)):=heap_alloc_new W _
theorem zbI (W:World) (o:Obj):Below W.heap.size W (W.alloc o):=(Below.refl _ _).alloc (Nat.le_refl _) _
theorem zhn (h:Bd D k) (hk:k<=200000) (n:ByteArray) (hn:n.size<=3000) (hv:IsL FL W (.slice fa fn fc) D.f):Stp 149 #[.pointer (some ⟨W.heap.size,0,none⟩)] (.slice fa fn fc) D (Dp.create D n) (W.alloc (.cells #[.string n] 9)):=
 zga (enters Tryz.func149 (by kernel_rfl) (by rfl)) fun W' b=>created1 fa fn fc D n W.heap.size _ W' ((hv.keep (zbI W _)).keep b) (hkeep (al_at W _ _) b) fun W'' b'=>ziQ h hk n hn (((hv.keep (zbI W _)).keep b).keep b')
theorem zhm (h:Bd D k) (hk:k<=200000) (n:ByteArray) (hv:IsL FL W (.slice fa fn fc) D.f):Stp 148 #[.pointer (some ⟨W.heap.size,0,none⟩)] (.slice fa fn fc) D (Dp.delete D n) (W.alloc (.cells #[.string n] 9)):=
 zga (enters Tryz.func148 (by kernel_rfl) (by rfl)) fun W' b=>deleted1 fa fn fc D n W.heap.size _ W' ((hv.keep (zbI W _)).keep b) (hkeep (al_at W _ _) b) fun W'' b'=>zfK h hk n (((hv.keep (zbI W _)).keep b).keep b')
theorem zi9 (h:Bd D k) (hk:k<=200000) (n:ByteArray) (hv:IsL FL W (.slice fa fn fc) D.f):Stp 151 #[.pointer (some ⟨W.heap.size,0,none⟩)] (.slice fa fn fc) D (Dp.sync D n) (W.alloc (.cells #[.string n] 9)):=
 zga (enters Tryz.func151 (by kernel_rfl) (by rfl)) fun W' b=>synced1 fa fn fc D n W.heap.size _ W' ((hv.keep (zbI W _)).keep b) (hkeep (al_at W _ _) b) fun W'' b'=>sync_s h hk n (((hv.keep (zbI W _)).keep b).keep b')
theorem zfQ (W:World) (o o':Obj):Below W.heap.size W ((W.alloc o).alloc o'):=(zbI W o).alloc (zbI W o).size _
theorem zlR (W:World) (A:Array Value) (T:TypeId) (o:Obj):((W.alloc (.cells A T)).alloc o).heap[W.heap.size]?=some (.cells A T (0,0)):=halloc (heap_alloc_new W _)
theorem zlQ (W:World) (A:Array Value) (T:TypeId) (o:Obj):((W.alloc o).alloc (.cells A T)).heap[W.heap.size+1]?=some (.cells A T (0,0)):=by
 have:=heap_alloc_new (W.alloc o) (.cells A T)
 rwa [World.size_alloc] at this
theorem zgb (h:Bd D k) (hk:k<=200000) (n s:ByteArray) (hs:s.size<=3000) (hv:IsL FL W (.slice fa fn fc) D.f):Stp 150 #[.pointer (some ⟨W.heap.size,0,none⟩),.pointer (some ⟨W.heap.size+1,0,none⟩)] (.slice fa fn fc) D (Dp.append D n s) ((W.alloc (.cells #[.string n] 9)).alloc (.cells #[.string s] 9)):=
 zga (enters Tryz.func150 (by kernel_rfl) (by rfl)) fun W' b=>appended1 fa fn fc D n s W.heap.size (W.heap.size+1) _ W' ((hv.keep (zfQ W _ _)).keep b) (hkeep (zlR W _ _ _) b) (hkeep (zlQ W _ _ _) b) fun W'' b'=>ziV h hk n s hs (((hv.keep (zfQ W _ _)).keep b).keep b')
theorem zhl (h:Bd D k) (hk:k<=200000) (n s:ByteArray) (hs:s.size<=3000) (hv:IsL FL W (.slice fa fn fc) D.f):Stp 152 #[.pointer (some ⟨W.heap.size,0,none⟩),.pointer (some ⟨W.heap.size+1,0,none⟩)] (.slice fa fn fc) D (Dp.rename D n s) ((W.alloc (.cells #[.string n] 9)).alloc (.cells #[.string s] 9)):=
 zga (enters Tryz.func152 (by kernel_rfl) (by rfl)) fun W' b=>renamed1 fa fn fc D n s W.heap.size (W.heap.size+1) _ W' ((hv.keep (zfQ W _ _)).keep b) (hkeep (zlR W _ _ _) b) (hkeep (zlQ W _ _ _) b) fun W'' b'=>rename_s h hk n s hs (((hv.keep (zfQ W _ _)).keep b).keep b')
theorem bd_tk {X R:Dp.Dk×Int} {k:Nat} (h:Bd X.1 k) (hR:Bd R.1 (k+1)):Bd (tk X R).1 (k+1):=by
 unfold tk
 split
 · exact hR
 · exact h.mono (Nat.le_succ k)
end
end Sto
namespace Dsk
open Go.RowKit Dp
def SL:Lay ByteArray where
 enc:=fun s=>[.string s]
 k:=1
 len:=fun _=>rfl
 one:=by intro f u hu;simp at hu;rw [hu];rfl
 pos:=by decide
 T:=9
 ok:=fun _=>True
 z:=⟨#[]⟩
theorem zlj:(Tryz.prog.info? 9).map (fun i=>(i.zero,i.size,i.bytes))=some (some (.string ByteArray.empty),1,16):=by kernel_rfl
theorem sl_at {w:World} {a:Option Addr} {n cap:Nat} {l:List ByteArray} (h:IsL SL w (.slice a n cap) l) {i:Nat} (hi:i<n):∃b off,a=some ⟨b,off,none⟩/\w.cell? ⟨b,off+i,none⟩=some (.string (l.getD i ⟨#[]⟩)):=by
 have h':=h;obtain ⟨a',cap',e,_,_,h3⟩:=h
 injection e with e1 e2 e3
 rcases h3 with h3 | ⟨b,off,h4,_⟩
 · rw [h3] at e2;simp at e2;omega
 · subst e1
   subst h4
   refine ⟨b,off,rfl,?_⟩;have:=h'.at_ hi 0 _ rfl
   simpa [SL] using this
theorem zjC (l:List Fl) {k:Nat} (h:k<l.length):(l.map (·.n)).take (k+1)=(l.map (·.n)).take k++[(l.getD k zero).n]:=by
 rw [List.take_succ_eq_append_getElem (by rw [List.length_map];exact h),List.getElem_map,zaD h]
theorem zjl (fv:Value) (D:Dk) (w:World) (hv:IsL FL w fv D.f) (hl:D.f.length<=1000000000):
 Calls Tryz.prog 86 #[zac fv D] w (OutL SL w w.heap.size (D.f.map (·.n))):=by
 obtain ⟨i0,hi0,hz0,hz1,hz2⟩:=info_parts zlj
 obtain ⟨fa,fn,fc,rfl⟩:∃a n c,fv= .slice a n c:=by obtain ⟨a,c,h,_⟩:=hv;exact ⟨a,_,c,h⟩
 have HV:=zid hv;have hfl:=hv.len.1;have HT:=zid fun k (hk:k<D.f.length)=>zjC D.f hk;have HA:=zid (show ∀k,D.f.length<=k->(D.f.map (·.n)).take k=D.f.map (·.n) from fun k hk=>by rw [List.take_of_length_le (by rw [List.length_map];exact hk)]);have HLEN:=zid (show ∀k,((D.f.map (·.n)).take k).length<=k from fun k=>by rw [List.length_take];omega);have G0:=zid (heap_alloc_new w (.cells #[.slice fa fn fc,.int .i64 D.c,.bool D.a,.int .i64 D.l,.bool D.x] 27));have B0:=zid ((Below.refl w.heap.size w).alloc (Nat.le_refl _) (.cells #[.slice fa fn fc,.int .i64 D.c,.bool D.a,.int .i64 D.l,.bool D.x] 27));obtain ⟨fl,dc,da,dl,dx⟩:=D;dsimp only at*;rw [<-hfl] at hl HT HA;clear hfl hv;unfold zac;dsimp only;obtain ⟨q0,q1,q2,q3,q4⟩:=zaa G0.out
 go_enter Tryz.func86,Tryz.ntmps86
 go_wp2_with fail;generalize World.alloc w _=w0 at G0 B0 q0 q1 q2 q3 q4 ⊢;have hs0:=(Array.getElem?_eq_some_iff.1 G0.out).1
 go_loopw [3,4] (fun s i wr=>∃k:Nat,k<=fn/\i= .int .i64 k/\OwnL SL wr w0.heap.size s ((fl.map (·.n)).take k)/\Below w0.heap.size w0 wr) (fun _ i _=>fn-(intOf i).toNat)
 case atStart=>exact ⟨0,Nat.zero_le _,rfl,by rw [List.take_zero];exact OwnL.nil _ _,Below.refl _ _⟩
 case round=>
  clear q0 q1 q2 q3 q4;obtain ⟨k,hk,rfl,hO,bel⟩:=hrel;have HO:=zid hO;have hh:=hkeep G0.out bel;obtain ⟨p0,p1,p2,p3,p4⟩:=zaa hh;have hwl:=(Array.getElem?_eq_some_iff.1 hh).1;clear hO hh
  by_cases hlt:k<fn
  · obtain ⟨b,off,rfl,c0,c1,c2⟩:=zb3 (HV.out.keep (B0.out.trans (bel.mono B0.out.size))) hlt
    have HTk:=HT.out k hlt
    have hlk:=HLEN.out k;have hbel:=bel.size;have hgl:=block_lt_of_cell c0;generalize fl.getD k zero=f at*;generalize (fl.map (·.n)).take k=L at*;replace HTk:=zid HTk;have HF:Hid (∀v' w3,w3.ownsRow w0.heap.size 9 1 v' (L.length+1) (SL.vals L++[.string f.n])->OwnL SL w3 w0.heap.size v' (L++[f.n])):=fun v' w3 h=>OwnL.snoc (n:=L.length) h rfl rfl;have HB2:=zid (show Below wr.heap.size wr (wr) from Below.refl _ _);have HOX:=zid (show ((wr).alloc (.cells [Value.string f.n].toArray 9)).ownsRow w0.heap.size 9 1 u3 L.length (SL.vals L) from (HO.out.keep HB2.out).alloc _);have HLT:=zid fun k' (h:_)=>HO.out.lt k' h;have HBW:=zid ((bel.trans (HB2.out.mono hbel)).alloc (Nat.le_trans hbel HB2.out.size) (.cells [Value.string f.n].toArray 9));have HNEW:=zid (zar (wr) (wr.heap.size) [Value.string f.n] 9 (by simp));have H1:=zid (show ∀u∈[Value.string f.n],u.oneCell'=true from SL.one f.n);generalize hxs:SL.vals L=xs at*;generalize hll:L.length=ll at*;clear hxs hll
    go_wp2_with (at_builtin;refine wpList_append_own _ rfl _ _ 40 rfl w0.heap.size 9 i0 (.string ByteArray.empty) 1 16 Tryz.underlying40 hi0 hz0 hz1 hz2 rfl (by decide) _ _ _ rfl HOX.out ⟨wr.heap.size,0,none⟩ 1 1 [Value.string f.n] rfl rfl HNEW.out H1.out (by unfold maxLen;omega) (by omega) (by simp;omega) ?_;intro v' w3 hown' hgrow3 hnil3)
    go_roundw
    case rel=>
     exact ⟨k+1,by omega,by go_num,by rw [HTk.out];exact HF.out v' w3 hown',HBW.out.grown hgrow3 (by simp;omega) (fun q hq=>(HLT.out q hq).1)⟩
    case measure=>simp [intOf];omega
  · have HF:=HA.out k (by omega)
    have HOO:=HO.out
    rw [HF] at HOO;have HOO:=zid (zbd HOO B0.out.size);have HG:=zid (fun v (h:OwnL SL wr w.heap.size v (fl.map (·.n)))=>OutL.mk (w:=w) h (B0.out.trans (bel.mono B0.out.size)));clear HF;go_wp2_with fail;go_ret;exact HG.out _ HOO.out
end Dsk
namespace Ro
open Go.RowKit So Dsk Rts Sto
def dC (v:Value) (D:Dp.Dk):Obj:= .cells #[v,.int .i64 D.c,.bool D.a,.int .i64 D.l,.bool D.x] 27
def dZ:Obj:= .cells #[.slice none 0 0,.int .i64 0,.bool false,.int .i64 0,.bool false] 27
def Cw (w:World) (fv0:Value) (t:Nat) (v:Value) (D:Dp.Dk) (t1:Nat) (o1:Obj) (xs:List (Nat×Obj)) (W:World):Prop:=
 t1≠t/\(∀p∈xs,p.1≠t/\p.1≠t1)/\Ms w w.heap.size fv0 (.slice none 0 0) ((t,dC v D)::(t1,o1)::xs) [(v,D.f)] [] W
section
variable {w W W':World} {fv0 v:Value} {D D':Dp.Dk} {t t1:Nat} {o1:Obj} {xs:List (Nat×Obj)}
theorem Cw.start {fv:Value} (hv:IsL FL w fv D.f) (A:Array Value) (T:TypeId):Cw w fv w.heap.size fv D (w.heap.size+1) (.cells A T) [] ((w.alloc (dC fv D)).alloc (.cells A T)):=by
 have M:=((Ms.start (gv:= .slice none 0 0) (lg:=[]) hv (IsL.nil w none 0)).alloc #[fv,.int .i64 D.c,.bool D.a,.int .i64 D.l,.bool D.x] 27).alloc A T;rw [World.size_alloc] at M;refine ⟨by omega,fun p hp=>absurd hp List.not_mem_nil,M.sub (fun p hp=>?_) (fun p hp=>hp) (fun p hp=>absurd hp List.not_mem_nil)⟩;simp only [List.mem_cons,List.not_mem_nil,or_false] at hp ⊢
 rcases hp with hp | hp
 · exact .inr hp
 · exact .inl hp
theorem Cw.keep (h:Cw w fv0 t v D t1 o1 xs W) (k:Below W.heap.size W W'):Cw w fv0 t v D t1 o1 xs W':=⟨h.1,h.2.1,h.2.2.keep k⟩
theorem Cw.d (h:Cw w fv0 t v D t1 o1 xs W):W.heap[t]?=some (dC v D):=h.2.2.at_ mcs
theorem Cw.r (h:Cw w fv0 t v D t1 o1 xs W):W.heap[t1]?=some o1:=h.2.2.at_ (mcm mcs)
theorem Cw.f (h:Cw w fv0 t v D t1 o1 xs W):IsL FL W v D.f:=h.2.2.fl mcs
theorem Cw.bw (h:Cw w fv0 t v D t1 o1 xs W):Below w.heap.size w W:=h.2.2.w
theorem Cw.lt (h:Cw w fv0 t v D t1 o1 xs W):t<W.heap.size:=h.2.2.lt mcs
theorem Cw.rlt (h:Cw w fv0 t v D t1 o1 xs W):t1<W.heap.size:=h.2.2.lt (mcm mcs)
theorem Cw.lay (h:Cw w fv0 t v D t1 o1 xs W) {a:Option Addr} {n c:Nat} (k:DkS W v D' (.slice a n c) W'):
 ∃Z,((((W'.setCell ⟨t,0,none⟩ (.slice a n c)).setCell ⟨t,1,none⟩ (.int .i64 D'.c)).setCell ⟨t,2,none⟩ (.bool D'.a)).setCell ⟨t,3,none⟩ (.int .i64 D'.l)).setCell ⟨t,4,none⟩ (.bool D'.x)=Z/\Cw w fv0 t (.slice a n c) D' t1 o1 xs Z/\W'.grownBy Z (some t):=by
 obtain ⟨Z,h1,h2⟩:=(h.2.2.call mcs k).lay5 (t:=t) (cs':=(t,dC (.slice a n c) D')::(t1,o1)::xs) mcs (.slice a n c) (.int .i64 D'.c) (.bool D'.a) (.int .i64 D'.l) (.bool D'.x) (fun q hq=>by
  rcases List.mem_cons.1 hq with rfl | hq
  · exact .inl rfl
  · refine .inr ⟨mcm hq,?_⟩
    rcases List.mem_cons.1 hq with rfl | hq
    · exact h.1
    · exact (h.2.1 q hq).1)
 refine ⟨Z,h1,⟨h.1,h.2.1,h2.sub (fun _ h=>h) (fun p hp=>by rw [List.mem_singleton] at hp;rw [hp];exact mcs) (fun _ h=>h)⟩,?_⟩;rw [<-h1];exact ze9 _ _ _ _ _ _ _
theorem Cw.fin (h:Cw w fv0 t v D t1 dZ xs W) {a:Option Addr} {n c:Nat} (k:DkS W v D' (.slice a n c) W'):
 ∃Z,((((W'.setCell ⟨t1,0,none⟩ (.slice a n c)).setCell ⟨t1,1,none⟩ (.int .i64 D'.c)).setCell ⟨t1,2,none⟩ (.bool D'.a)).setCell ⟨t1,3,none⟩ (.int .i64 D'.l)).setCell ⟨t1,4,none⟩ (.bool D'.x)=Z/\Z.heap[t1]?=some (dC (.slice a n c) D')/\∀e:Int,zaL w fv0 (D',e) (.returned (.tuple #[zac (.slice a n c) D',.int .i64 e])) Z:=by
 obtain ⟨Z,h1,h2⟩:=(h.2.2.call mcs k).lay5 (t:=t1) (cs':=[(t1,dC (.slice a n c) D')]) (mcm mcs) (.slice a n c) (.int .i64 D'.c) (.bool D'.a) (.int .i64 D'.l) (.bool D'.x) (fun p hp=> .inl (List.mem_singleton.1 hp));exact ⟨Z,h1,h2.at_ mcs,fun e=>⟨a,n,c,rfl,h2.dks mcs⟩⟩
theorem Cw.ret {a:Option Addr} {n c:Nat} (h:Cw w fv0 t (.slice a n c) D t1 dZ xs W):
 ∃Z,((((W.setCell ⟨t1,0,none⟩ (.slice a n c)).setCell ⟨t1,1,none⟩ (.int .i64 D.c)).setCell ⟨t1,2,none⟩ (.bool D.a)).setCell ⟨t1,3,none⟩ (.int .i64 D.l)).setCell ⟨t1,4,none⟩ (.bool D.x)=Z/\Z.heap[t1]?=some (dC (.slice a n c) D)/\∀e:Int,zaL w fv0 (D,e) (.returned (.tuple #[zac (.slice a n c) D,.int .i64 e])) Z:=
 h.fin ⟨h.f,fun _ _ h=>h,Below.refl _ _⟩
end
def NwR (w:World) (b:Nat) (fv0 gv0:Value) (cs:List (Nat×Obj)) (fs:List (Value×List Dp.Fl)) (gs:List (Value×List Rt.Sg)) (D:Dp.Dk) (t:Nat) (W:World):Prop:=∃a n c,(∀p∈cs,p.1≠t)/\Ms w b fv0 gv0 ((t,dC (.slice a n c) D)::cs) ((.slice a n c,D.f)::fs) gs W
section
variable {w w0 Wc W5:World} {b:Nat} {fv gv v0:Value} {cs:List (Nat×Obj)} {fs:List (Value×List Dp.Fl)} {gs:List (Value×List Rt.Sg)} {l:List Dp.Fl} {D:Dp.Dk} {a:Option Addr} {n c:Nat}
theorem NwR.A (M:Ms w b v0 gv cs ((fv,l)::fs) gs w0) (q:Below w0.heap.size w0 Wc) (k:DkS Wc fv D (.slice a n c) W5):NwR w b v0 gv cs ((fv,l)::fs) gs D W5.heap.size (W5.alloc (.cells #[.slice a n c,.int .i64 D.c,.bool D.a,.int .i64 D.l,.bool D.x] 27)):=by
 have M2:=(M.keep q).call mcs k;exact ⟨a,n,c,fun p hp e=>by have:=M2.lt (t:=p.1) (o:=p.2) hp;omega,M2.alloc _ _⟩
theorem NwR.B (M:Ms w b v0 gv cs ((fv,l)::fs) gs w0) (q:Below w0.heap.size w0 Wc) (k:DkS Wc fv D (.slice a n c) W5) {t:Nat} {x0 x1 x2 x3 x4:Value} (hz:W5.heap[t]?=some (.cells #[x0,x1,x2,x3,x4] 27 (0,0))) (h4:w0.heap.size<=t) (h5:t<Wc.heap.size):
 NwR w b v0 gv cs ((fv,l)::fs) gs D t (((((W5.setCell ⟨t,0,none⟩ (.slice a n c)).setCell ⟨t,1,none⟩ (.int .i64 D.c)).setCell ⟨t,2,none⟩ (.bool D.a)).setCell ⟨t,3,none⟩ (.int .i64 D.l)).setCell ⟨t,4,none⟩ (.bool D.x)):=by
 have M2:=(M.keep q).call mcs k
 have hne:∀p∈cs,p.1≠t:=fun p hp e=>by have:=M.lt (t:=p.1) (o:=p.2) hp;omega
 have M3:Ms w b v0 gv ((t,.cells #[x0,x1,x2,x3,x4] 27)::cs) ((.slice a n c,D.f)::(fv,l)::fs) gs W5:=by
  refine ⟨fun p hp=>?_,fun p hp=>⟨(M2.f p hp).1,fun r hr=>?_,(M2.f p hp).2.2⟩,fun p hp=>⟨(M2.g p hp).1,fun r hr=>?_,(M2.g p hp).2.2⟩,M2.le,M2.w⟩
  · rcases List.mem_cons.1 hp with rfl | hp
    · exact ⟨by have:=M.le;show b<=t;omega,hz⟩
    · exact M2.c p hp
  · rcases List.mem_cons.1 hr with rfl | hr
    · rcases List.mem_cons.1 hp with rfl | hp
      · exact k.s t h5 (IsL.sep_new (M.fl mcs) h4)
      · exact IsL.sep_new (M.f p hp).1 h4
    · exact (M2.f p hp).2.1 r hr
  · rcases List.mem_cons.1 hr with rfl | hr
    · exact IsL.sep_new (M.g p hp).1 h4
    · exact (M2.g p hp).2.1 r hr
 obtain ⟨Z,hZ,M4⟩:=M3.lay5 (t:=t) (cs':=(t,dC (.slice a n c) D)::cs) mcs (.slice a n c) (.int .i64 D.c) (.bool D.a) (.int .i64 D.l) (.bool D.x) (fun r hr=>by
  rcases List.mem_cons.1 hr with rfl | hr
  · exact .inl rfl
  · exact .inr ⟨mcm hr,hne r hr⟩)
 rw [hZ];exact ⟨a,n,c,hne,M4⟩
end
structure Rw (w:World) (fv0 lv:Value) (P:World->Prop) (l U:List ByteArray) (R:Dp.Dk×Int) (k:Nat) (v:Value) (D:Dp.Dk) (t1 j:Nat) (W:World):Prop where
 c:Cw w fv0 w.heap.size v D t1 dZ [] W
 i:IsL Dsk.SL W lv l
 s:P W
 b:Bd D (k+j)
 e:Lg.sweepT U D (l.drop j)=R
end Ro
section
open Go.RowKit
def zbm (r:Rp.Rec):Value:= .agg #[.int .i64 r.a,.int .i64 r.t,.string r.d]
structure RecOk (r:Rp.Rec):Prop where
 a0: -9223372036854775808<=r.a
 a1:r.a<=9223372036854775807
 t0: -9223372036854775808<=r.t
 t1:r.t<=9223372036854775807
 d1:r.d.size<=9223372036854775807
theorem zcx (n:Int) (w:World):
 Calls Tryz.prog 78 #[.int .i64 n] w fun e w'=>e= .returned (.bool (Rp.inB n))/\w=w':=by
 by_cases h0:0<=n
 · by_cases h1:n<=1099511627776
   · rw [Rp.inB_mk h0 h1]
     go_enter Tryz.func78,Tryz.ntmps78
     go_wp2_with fail;go_ret;exact ⟨rfl,rfl⟩
   · rw [Rp.inB_no (by omega)]
     have h2:decide (n<=1099511627776)=false:=by simp;omega
     clear h1
     go_enter Tryz.func78,Tryz.ntmps78
     go_wp2_with fail;go_ret;exact ⟨rfl,rfl⟩
 · rw [Rp.inB_no (by omega)]
   have h2:decide (0<=n)=false:=by simp;omega
   clear h0
   go_enter Tryz.func78,Tryz.ntmps78
   go_wp2_with fail;go_ret;exact ⟨rfl,rfl⟩
def okB (r:Rp.Rec):Bool:=decide (Rp.fault r=0)
theorem zkY {r:Rp.Rec} (h:Rp.fault r=0):okB r=true:=decide_eq_true h
theorem zk0 {r:Rp.Rec} (h:Rp.fault r≠0):okB r=false:=decide_eq_false h
def zix (r:Rp.Rec):Value:= .tuple #[.string ⟨(Rp.putB r).toArray⟩,.int .i64 (Rp.fault r)]
theorem zjw {r:Rp.Rec} (h:Rp.fault r=0):zix r= .tuple #[.string ⟨(Fr.fr (Rp.body r)).toArray⟩,.int .i64 0]:=by
 unfold zix;rw [Rp.putB_yes h,h]
theorem body_str (a b:List UInt8) (s:ByteArray):(⟨a.toArray⟩++⟨b.toArray⟩++s:ByteArray).data.toList=a++b++s.data.toList:=by simp
theorem ziy {n:Int} (h:0<=n):putI n=Vp.put n.toNat:=by unfold putI;rw [if_neg (by omega)]
theorem zj0 (r:Rp.Rec) (w:World) (hd:r.d.size<=9223372036854775807):
 Calls Tryz.prog 79 #[zbm r] w fun e w'=>e= .returned (.int .i64 (Rp.fault r))/\Below w.heap.size w w':=by
 have C1:=zid fun W:World=>zcx r.a W;have C2:=zid fun W:World=>zcx r.t W;have F1:=zid (@Rp.fault_a r);have F2:=zid (@Rp.fault_t r);have F3:=zid (@Rp.fault_d r);have F4:=zid (@Rp.fault_ok r);unfold zbm
 rcases h1:Rp.inB r.a with _ | _
 · rw [h1] at C1
   have HF:=zid (F1.out h1)
   clear h1
   go_enter Tryz.func79,Tryz.ntmps79
   go_wp2_with fail;refine (C1.out _).mono ?_;rintro e w' ⟨rfl,rfl⟩;go_wp2_with fail;go_ret;exact ⟨by rw [HF.out];rfl,(Below.refl _ _).alloc (Nat.le_refl _) _⟩
 have H1:=zid h1;rw [h1] at C1;clear h1
 rcases h2:Rp.inB r.t with _ | _
 · rw [h2] at C2
   have HF:=zid (F2.out h2)
   clear h2
   go_enter Tryz.func79,Tryz.ntmps79
   go_wp2_with fail;refine (C1.out _).mono ?_;rintro e w' ⟨rfl,rfl⟩;go_wp2_with fail;refine (C2.out _).mono ?_;rintro e w' ⟨rfl,rfl⟩;go_wp2_with fail;go_ret;exact ⟨by rw [HF.out];rfl,(Below.refl _ _).alloc (Nat.le_refl _) _⟩
 have H2:=zid h2;rw [h2] at C2;clear h2
 by_cases h3:64<(r.d.size:Int)
 · have HF:=zid (F3.out H1.out H2.out (by omega))
   go_enter Tryz.func79,Tryz.ntmps79
   go_wp2_with fail;refine (C1.out _).mono ?_;rintro e w' ⟨rfl,rfl⟩;go_wp2_with fail;refine (C2.out _).mono ?_;rintro e w' ⟨rfl,rfl⟩;go_wp2_with fail;go_ret;exact ⟨by rw [HF.out];rfl,(Below.refl _ _).alloc (Nat.le_refl _) _⟩
 · have HF:=zid (F4.out H1.out H2.out (by omega))
   go_enter Tryz.func79,Tryz.ntmps79
   go_wp2_with fail;refine (C1.out _).mono ?_;rintro e w' ⟨rfl,rfl⟩;go_wp2_with fail;refine (C2.out _).mono ?_;rintro e w' ⟨rfl,rfl⟩;go_wp2_with fail;go_ret;exact ⟨by rw [HF.out];rfl,(Below.refl _ _).alloc (Nat.le_refl _) _⟩
theorem zkZ {r:Rp.Rec} (h:Rp.fault r=6):okB r=false:=zk0 (by omega)
theorem okB_five {r:Rp.Rec} (h:Rp.fault r=5):okB r=false:=zk0 (by omega)
theorem zji (r:Rp.Rec) (w:World) (hd:r.d.size<=9223372036854775807):
 Calls Tryz.prog 41 #[zbm r] w fun e w'=>e= .returned (.bool (okB r))/\Below w.heap.size w w':=by
 have C1:=zid fun W:World=>zcx r.a W;have C2:=zid fun W:World=>zcx r.t W;have F1:=zid (@Rp.fault_a r);have F2:=zid (@Rp.fault_t r);have F3:=zid (@Rp.fault_d r);have F4:=zid (@Rp.fault_ok r);unfold zbm
 rcases h1:Rp.inB r.a with _ | _
 · rw [h1] at C1
   rw [zkZ (F1.out h1)]
   clear h1
   go_enter Tryz.func41,Tryz.ntmps41
   go_wp2_with fail;refine (C1.out _).mono ?_;rintro e w' ⟨rfl,rfl⟩;go_wp2_with fail;go_ret;exact ⟨rfl,(Below.refl _ _).alloc (Nat.le_refl _) _⟩
 have H1:=zid h1;rw [h1] at C1;clear h1
 rcases h2:Rp.inB r.t with _ | _
 · rw [h2] at C2
   rw [zkZ (F2.out h2)]
   clear h2
   go_enter Tryz.func41,Tryz.ntmps41
   go_wp2_with fail;refine (C1.out _).mono ?_;rintro e w' ⟨rfl,rfl⟩;go_wp2_with fail;refine (C2.out _).mono ?_;rintro e w' ⟨rfl,rfl⟩;go_wp2_with fail;go_ret;exact ⟨rfl,(Below.refl _ _).alloc (Nat.le_refl _) _⟩
 have H2:=zid h2;rw [h2] at C2;clear h2
 by_cases h3:(r.d.size:Int)<=64
 · rw [zkY (F4.out H1.out H2.out (by omega))]
   go_enter Tryz.func41,Tryz.ntmps41
   go_wp2_with fail;refine (C1.out _).mono ?_;rintro e w' ⟨rfl,rfl⟩;go_wp2_with fail;refine (C2.out _).mono ?_;rintro e w' ⟨rfl,rfl⟩;go_wp2_with fail;go_ret;exact ⟨rfl,(Below.refl _ _).alloc (Nat.le_refl _) _⟩
 · rw [okB_five (F3.out H1.out H2.out (by omega))]
   have h4:decide ((r.d.size:Int)<=64)=false:=by simp;omega
   clear h3
   go_enter Tryz.func41,Tryz.ntmps41
   go_wp2_with fail;refine (C1.out _).mono ?_;rintro e w' ⟨rfl,rfl⟩;go_wp2_with fail;refine (C2.out _).mono ?_;rintro e w' ⟨rfl,rfl⟩;go_wp2_with fail;go_ret;exact ⟨rfl,(Below.refl _ _).alloc (Nat.le_refl _) _⟩
theorem zkE (r:Rp.Rec) (w:World) (h:Rp.Ok r):
 Calls Tryz.prog 81 #[zbm r] w fun e w'=>e= .returned (.string (⟨(putI r.a).toArray⟩++⟨(putI r.t).toArray⟩++r.d))/\Below w.heap.size w w':=by
 have l1:(putI r.a).length<=9:=za3 _;have l2:(putI r.t).length<=9:=za3 _;have l3:r.d.size<=64:=h.2.2.2.2;have a0:=h.1;have a1:=h.2.1;have t0:=h.2.2.1;have t1:=h.2.2.2.1
 have s1:¬9223372036854775807<(putI r.a).length+(putI r.t).length:=by omega
 have s2:¬9223372036854775807<(putI r.a).length+(putI r.t).length+r.d.size:=by omega
 clear h;unfold zbm
 go_enter Tryz.func81,Tryz.ntmps81
 go_wp2_with fail;have hbox:=zfN w (.int .i64 r.a) (.int .i64 r.t) (.string r.d) 46
 go_region_held3 (fun w'=>w'.cell? ⟨w.heap.size,0,none⟩=some (.int .i64 r.a)/\w'.cell? ⟨w.heap.size,1,none⟩=some (.int .i64 r.t)/\w'.cell? ⟨w.heap.size,2,none⟩=some (.string r.d)/\Below w.heap.size w w')
  (first | assumption | exact zdA (by assumption) (Below.refl _ _).drew | exact zdA (by assumption) (by assumption))
  ((go_at_call 76;refine (zcY _ _ (by omega) (by omega)).mono ?_;rintro e w4 ⟨rfl,b4⟩))
 go_wp2_with fail;go_ret;obtain ⟨_,_,_,hb⟩:= ‹_/\_/\_/\Below w.heap.size w w4›;exact ⟨rfl,hb⟩
theorem zhy (r:Rp.Rec) (w:World) (h:Rp.Ok r):
 Calls Tryz.prog 43 #[zbm r] w fun e w'=>e= .returned (zix r)/\Below w.heap.size w w':=by
 have hf:=Rp.fault_zero h;have C:=fun W:World=>zj0 r W (by have:=h.2.2.2.2;omega);rw [hf] at C;have C:=zid C;have HV:=zid (zjw hf)
 have hb:(⟨(putI r.a).toArray⟩++⟨(putI r.t).toArray⟩++r.d:ByteArray).data.toList=Rp.body r:=by rw [body_str,ziy h.1,ziy h.2.2.1];rfl
 have hs:(⟨(putI r.a).toArray⟩++⟨(putI r.t).toArray⟩++r.d:ByteArray).size=(Rp.body r).length:=by rw [<-hb];rfl
 have F:=fun W:World=>zen (⟨(putI r.a).toArray⟩++⟨(putI r.t).toArray⟩++r.d) W (by rw [hs];exact Rp.body_may h);rw [hb] at F;have D:=fun W:World=>zkE r W h;generalize (⟨(putI r.a).toArray⟩++⟨(putI r.t).toArray⟩++r.d:ByteArray)=B at*;have F:=zid F;have D:=zid D;clear hb hs hf h;unfold zbm at C D ⊢
 go_enter Tryz.func43,Tryz.ntmps43
 go_wp2_with fail;refine (C.out _).mono ?_;rintro e w1 ⟨rfl,b1⟩;obtain ⟨x0,x1,x2,hb⟩:=zdA (zfN w _ _ _ _) b1;go_wp2_with fail;refine (D.out _).mono ?_;rintro e w2 ⟨rfl,b2⟩;go_wp2_with fail;refine (F.out _).mono ?_;rintro e w3 ⟨rfl,b3⟩;go_wp2_with fail;go_ret2;exact ⟨by rw [HV.out];rfl,zah (zah hb b2) b3⟩
end
end Go.Proofs.YtgmppfpllogdcaaGreat

/-
  Parts of what the laws of this seat stand on:DiskIns,DiskVal.
-/
import Derived.Test.YtgmppfpllogdcaaGreatBi1
import Derived.Lib.AppendZerosOnto
import Derived.Shelf.Spec.SlicesInsert
import Derived.Test.YtgmppfpllogdcaaGreatBi8
set_option maxRecDepth 100000
set_option maxHeartbeats 6400000
namespace Go.Proofs.YtgmppfpllogdcaaGreat
namespace Dsk
open Go.RowKit Go.Lib
theorem del_any (l:List Dp.Fl) (base i:Nat) (v:Value) (w:World) (ho:OwnL FL w base v l) (hi:i<l.length):
 Calls Tryz.prog 121 #[v,.int .i64 (i:Int),.int .i64 ((i:Int)+1)] w (OutL FL w base (l.take i++l.drop (i+1))):=by
 obtain ⟨g,cap,cur,rfl,hb,hg,hc,hm,hs,ht⟩:=zcA ho (by omega);refine (zlA l.length cap i (i+1) g cur (FL.vals l) w rfl (by omega) hc hg hs ht (FL.vals_cells l)).mono ?_;rintro e w' ⟨rfl,rfl⟩;have hgd:w.drew.heap[g]?=some (.cells cur 82 (0,0)):=hg
 have hD:((FL.vals l).drop ((i+1)*3)).length=(l.length-(i+1))*3:=by rw [List.length_drop,vals_len];omega
 have h1:=zaq (o:=i*3) (vs:=(FL.vals l).drop ((i+1)*3)) hgd (by omega);have hz:noughts.length=3:=rfl;have hs1:=zav (cur:=cur) (o:=i*3) (vs:=(FL.vals l).drop ((i+1)*3)) (by omega);have h2:=zaq (o:=(i+(l.length-(i+1)))*3) (vs:=noughts) h1 (by omega)
 have e1:(l.take i++l.drop (i+1)).length=i+(l.length-(i+1)):=by simp;omega
 refine ⟨_,rfl,?_,(zaH hb _ _ w.drew).trans (zaH hb _ _ _) |> fun h=>⟨h.os,h.tape,h.output,h.size,h.block⟩⟩;rw [<-e1];refine zgC hb (by rw [e1];exact h2) (by omega) hm (by rw [zav (by omega),hs1];exact hs) ?_;rw [e1,zcI (by omega) _ (Nat.le_refl _),zcv (by omega) _ (by omega),FL.vals_append, <-vals_take, <-vals_drop, <-ht,List.take_take,Nat.min_eq_left (by omega)]
theorem ins_end (l:List Dp.Fl) (base:Nat) (v:Value) (f:Dp.Fl) (vb:Nat) (w:World) (ho:OwnL FL w base v l) (hl:l.length<=1000000000) (hbw:base<=w.heap.size)
 (hv:w.heap[vb]?=some (.cells (zaj f).toArray 82 (0,0))):
 Calls Tryz.prog 119 #[v,.int .i64 (l.length:Int),.slice (some ⟨vb,0,none⟩) 1 1] w (OutL FL w base (l++[f])):=by
 obtain ⟨i0,hi0,hz0,hz1,hz2⟩:=info_parts zdd;have HO:=zid ho
 have HF:Hid (∀v' w3,w3.ownsRow base 82 3 v' (l.length+1) (FL.vals l++(zaj f))->w.grownBy w3 v.ownBlock->OutL FL w base (l++[f]) (.returned v') w3):=by
  intro v' w3 h hg;refine OutL.mk ?_ ((Below.refl _ _).grown hg hbw (fun q hq=>(World.ownsRow.lt HO.out q hq).1));unfold OwnL;rw [vals_snoc,List.length_append];exact h
 have hnews:Hid (∀(j:Nat) (u:Value),(zaj f)[j]?=some u->w.cell? ((⟨vb,0,none⟩:Addr).add j)=some u):=by
  intro j u h;rw [zak,zcZ hv]
  simpa using h
 rcases ho.2 with ⟨rfl,h0⟩ | ⟨g,cap,cur,rfl,hb,hg,hc,hm,hs,ht⟩
 · have hl0:l.length=0:=h0
   have HO':Hid (w.ownsRow base 82 3 (.slice none 0 0) l.length (FL.vals l)):=HO
   have H1n:=zid (show ∀u∈zaj f,u.oneCell'=true from FL.one f);have H3n:=zid (flCells_len f);generalize FL.vals l=xs at*;generalize zaj f=fc at*;generalize l.length=len at*;subst h0;clear ho HO
   go_enter Tryz.func119,Tryz.ntmps119
   go_wp2_with (at_builtin;refine wpList_append_own _ rfl _ _ 25 rfl base 82 i0 (.agg #[.string ByteArray.empty,.string ByteArray.empty,.int .i64 0]) 3 40 Tryz.underlying25 hi0 hz0 hz1 hz2 rfl (by decide) _ _ _ rfl HO'.out ⟨vb,0,none⟩ 1 1 fc rfl H3n.out hnews.out H1n.out (by unfold maxLen;omega) (by omega) hbw ?_;intro v' w3 hown' hgrow3 hnil3)
   go_ret;exact HF.out v' w3 hown' hgrow3
 · have HO':Hid (w.ownsRow base 82 3 (.slice (some ⟨g,0,none⟩) l.length cap) l.length (FL.vals l)):=HO
   have H1n:=zid (show ∀u∈zaj f,u.oneCell'=true from FL.one f)
   have H3n:=zid (flCells_len f);generalize FL.vals l=xs at*;generalize zaj f=fc at*;generalize l.length=len at*;clear ho HO ht hg hs;unfold maxLen at hm
   go_enter Tryz.func119,Tryz.ntmps119
   go_wp2_with (at_builtin;refine wpList_append_own _ rfl _ _ 25 rfl base 82 i0 (.agg #[.string ByteArray.empty,.string ByteArray.empty,.int .i64 0]) 3 40 Tryz.underlying25 hi0 hz0 hz1 hz2 rfl (by decide) _ _ _ rfl HO'.out ⟨vb,0,none⟩ 1 1 fc rfl H3n.out hnews.out H1n.out (by unfold maxLen;omega) (by omega) hbw ?_;intro v' w3 hown' hgrow3 hnil3)
   all_goals
    go_ret
    exact HF.out v' w3 hown' hgrow3
theorem ziF:Tryz.prog.follows Departure.mixedOrders=true:=by kernel_rfl
theorem zft:(Tryz.prog.info? 82).map (·.size)=some 3:=by kernel_rfl
theorem zlh (n cap i m g vb:Nat) (cur:Array Value) (xs vs:List Value) (w:World) (hm1:m=1) (hi:i<n) (hroom:n+m<=cap) (hc63:cap<=9223372036854775807) (hvb:vb≠g)
 (hg:w.heap[g]?=some (.cells cur 82 (0,0))) (hs:cur.size=cap*3) (ht:cur.toList.take (n*3)=xs) (h1:∀u∈xs,u.oneCell'=true)
 (hv:w.heap[vb]?=some (.cells vs.toArray 82 (0,0))) (hvl:vs.length=3) (h1v:∀u∈vs,u.oneCell'=true):
 Calls Tryz.prog 119 #[.slice (some ⟨g,0,none⟩) n cap,.int .i64 (i:Int),.slice (some ⟨vb,0,none⟩) m m] w fun e w'=>
  e= .returned (.slice (some ⟨g,0,none⟩) (n+m) cap)/\w'=(w.drew.setCells g ((i+m)*3) (xs.drop (i*3))).setCells g (i*3) vs:=by
 have mixed:=ziF
 have hxl:xs.length=n*3:=by rw [<-ht,List.length_take,Array.length_toList];omega
 have hdl:(xs.drop (i*3)).length=(n-i)*3:=by rw [List.length_drop,hxl];omega
 have hgd:w.drew.heap[g]?=some (.cells cur 82 (0,0)):=hg
 have hov:∀lb cb,(callFunc 139 #[.slice (some ⟨vb,0,none⟩) m m,.slice (some ⟨g,(i+m)*3,none⟩) lb cb]).run Tryz.prog w= .ok (.value (.bool false)) w:=fun lb cb=>by
  rw [run_callFunc_extern Tryz.func139 (by kernel_rfl) (by kernel_rfl) (by kernel_rfl) (e:=Extern.SlicesOverlaps.overlaps #[25,25] #[4]) (by kernel_rfl),
   Lib.run_overlaps_apart w 25 4 82 Tryz.underlying25 3 (fun w=>by kernel_rfl) ⟨vb,0,none⟩ ⟨g,(i+m)*3,none⟩ m m lb cb hvb _ _ _ _ (zgc hv) (zgc hg) (by rw [hs];omega) (frozen_of_row w vb 0 _ _ hv) (frozen_of_row w vb _ _ _ hv)]
  rfl
 have hcp1:∀ty dc sc,(Builtin.copy_ #[25,25] ty #[.slice (some ⟨g,(i+m)*3,none⟩) (n+m-(i+m)) dc,.slice (some ⟨g,i*3,none⟩) (n+m-i) sc]).run Tryz.prog w.drew= .ok (goInt ((n-i:Nat):Int)) (w.drew.setCells g ((i+m)*3) (xs.drop (i*3))):=by
  intro ty dc sc
  have e:Nat.min (n+m-i) (n+m-(i+m))=n-i:=by show min _ _=_;omega
  have:=zbM (P:=Tryz.prog) w.drew 25 25 ty 82 3 g ((i+m)*3) (n+m-(i+m)) dc ⟨g,i*3,none⟩ (n+m-i) sc (xs.drop (i*3)) Tryz.underlying25 zft (by rw [e,hdl])
   (fun j v hj=>by rw [zak];exact zd0 hgd ht j v hj) (fun j hj=>zaK hgd _ (by omega)) (fun u hu=>h1 u (List.mem_of_mem_drop hu))
  rw [e] at this;exact this
 obtain ⟨W1,hW1⟩:∃W1,W1=w.drew.setCells g ((i+m)*3) (xs.drop (i*3)):=⟨_,rfl⟩
 have hg1:W1.heap[g]?=some (.cells (splice cur ((i+m)*3) (xs.drop (i*3))) 82 (0,0)):=by rw [hW1];exact zaq hgd (by omega)
 have hsz1:(splice cur ((i+m)*3) (xs.drop (i*3))).size=cap*3:=by rw [zav (by omega)];exact hs
 have hv1:W1.heap[vb]?=some (.cells vs.toArray 82 (0,0)):=by
  rw [hW1,zbk g _ _ _ cur w.drew hgd (by omega),setRow_other _ _ _ _ hvb];exact hv
 have hcp2:∀(W:World),W.heap=W1.heap->∀ty dc,(Builtin.copy_ #[25,25] ty #[.slice (some ⟨g,i*3,none⟩) (n+m-i) dc,.slice (some ⟨vb,0,none⟩) m m]).run Tryz.prog W= .ok (goInt m) (W.setCells g (i*3) vs):=by
  intro W hW ty dc
  have e:Nat.min m (n+m-i)=m:=by show min _ _=_;omega
  rw [<-hW] at hg1 hv1
  have:=zbM (P:=Tryz.prog) W 25 25 ty 82 3 g (i*3) (n+m-i) dc ⟨vb,0,none⟩ m m vs Tryz.underlying25 zft (by rw [e,hvl];omega)
   (fun j v hj=>by rw [zak,zcZ hv1];simpa using hj) (fun j hj=>zaK hg1 _ (by omega)) h1v
  rw [e] at this;exact this
 have hm0:0<m:=by omega
 have hz1:¬((m:Int)=0):=by omega
 have hz2:¬((i:Int)=(n:Int)):=by omega
 have hw1:IntKind.i64.wrap ((i:Int)+(m:Int))=(i:Int)+(m:Int):=by rw [IntKind.wrap_i64];omega
 have hb1:(0:Int)<=(i:Int)+(m:Int):=by omega
 have hin:i<=n:=by omega
 have htn:((i:Int)+(m:Int)).toNat=i+m:=by omega
 have hb2:¬(cap=i+m):=by omega
 have hb3:(i:Int)<=(n:Int)+(m:Int):=by omega
 have hb4:¬(cap=i):=by omega
 have HW1:Hid (W1=w.drew.setCells g ((i+m)*3) (xs.drop (i*3))):=hW1;rw [<-hW1] at hcp1;clear hg1 hsz1 hv1 hgd hg hv h1 h1v hvl hxl hdl ht hs hm1 hW1
 go_enter Tryz.func119,Tryz.ntmps119
 go_wp2_with (simp only [hov])
 go_region_law_o (refine step_copy_runI rfl _ _ 25 25 rfl _ _ (by simp [Act.eval,Act.put]) (by simp [Act.eval,Act.put]) (hcp1 _ _ _) ?_)
 go_wp2_with (at_builtin;refine wpList_copy_runI _ rfl _ _ 25 25 rfl _ _ rfl rfl (hcp2 _ rfl _ _) ?_)
 go_ret;exact ⟨rfl,by rw [HW1.out]⟩
theorem ins_grow (n cap i m g vb:Nat) (cur:Array Value) (xs vs:List Value) (w:World) (hm1:m=1) (hi:i<n) (hnc:n<=cap) (hroom:cap<n+m) (hn:n<=1000000000)
 (hg:w.heap[g]?=some (.cells cur 82 (0,0))) (hs:cur.size=cap*3) (ht:cur.toList.take (n*3)=xs) (h1:∀u∈xs,u.oneCell'=true)
 (hv:w.heap[vb]?=some (.cells vs.toArray 82 (0,0))) (hvl:vs.length=3) (h1v:∀u∈vs,u.oneCell'=true):
 Calls Tryz.prog 119 #[.slice (some ⟨g,0,none⟩) n cap,.int .i64 (i:Int),.slice (some ⟨vb,0,none⟩) m m] w fun e w'=>
  ∃(G:Nat) (ROW:Array Value),n+m<=G/\G<=maxLen/\ROW.size=G*3/\ROW.toList.take (i*3)=xs.take (i*3)/\e= .returned (.slice (some ⟨w.heap.size,0,none⟩) (n+m) G)/\
  w'=(((w.alloc (.cells ROW 82)).drew.setCells w.heap.size (i*3) vs).drew).setCells w.heap.size ((i+m)*3) (xs.drop (i*3)):=by
 have mixed:=ziF;obtain ⟨i0,hi0,hz0,hzs,hzb⟩:=info_parts zdd
 have hxl:xs.length=n*3:=by rw [<-ht,List.length_take,Array.length_toList];omega
 have hdl:(xs.drop (i*3)).length=(n-i)*3:=by rw [List.length_drop,hxl];omega
 have hbw:g<w.heap.size:=(Array.getElem?_eq_some_iff.1 hg).1;have hvw:vb<w.heap.size:=(Array.getElem?_eq_some_iff.1 hv).1
 have hkk:(n:Int)+(m:Int)-(i:Int)=((n+m-i:Nat):Int):=by omega
 have hik:i+(n+m-i)=n+m:=by omega
 have hold:(Builtin.firstCells i0.size i (.slice (some ⟨g,0,none⟩) i cap)).run Tryz.prog w.drew= .ok (xs.take (i*3)).toArray w.drew:=by
  rw [hzs];refine run_firstCells_some w.drew 3 i ⟨g,0,none⟩ i cap (xs.take (i*3)) (by rw [List.length_take];omega) (fun j v hj=>?_);rw [zak];rw [List.getElem?_take] at hj
  split at hj
  · exact zd0 (w:=w.drew) (o:=0) hg ht j v (by simpa using hj)
  · cases hj
 obtain ⟨G,hG⟩:∃G,G=grownCap w (n+m) cap 82:=⟨_,rfl⟩
 have hGn:n+m<=G:=by rw [hG];exact grownCap_ge w _ _ _
 have hGm:G<=maxLen:=by rw [hG];exact grownCap_le_maxLen w (n+m) cap _ (by unfold maxLen;omega)
 obtain ⟨ROW,hROW⟩:∃ROW:Array Value,ROW=(xs.take (i*3)).toArray++Builtin.zeroCells (Value.agg #[.string ByteArray.empty,.string ByteArray.empty,.int .i64 0]).cells (n+m-i)++Builtin.zeroCells (Value.agg #[.string ByteArray.empty,.string ByteArray.empty,.int .i64 0]).cells (G-(n+m)):=⟨_,rfl⟩;have hzc:(Value.agg #[.string ByteArray.empty,.string ByteArray.empty,.int .i64 0]).cells.size=3:=rfl
 have hRs:ROW.size=G*3:=by
  rw [hROW];simp only [Array.size_append,List.size_toArray,List.length_take,size_zeroCells,hzc,hxl];omega
 have hRt:ROW.toList.take (i*3)=xs.take (i*3):=by
  rw [hROW];simp only [Array.toList_append,List.append_assoc];exact List.take_left' (by rw [List.length_take,hxl];omega)
 have hrz:∀ty,(Builtin.append_ #[25,3] ty #[.slice (some ⟨g,0,none⟩) i cap,.int .i64 ((n:Int)+(m:Int)-(i:Int))]).run Tryz.prog w=
  .ok (.slice (some ⟨w.heap.size,0,none⟩) (n+m) G) (w.drew.alloc (.cells ROW 82)):=fun ty=>by
  have h:=Lib.run_append_grow_zeros w 25 3 ty 82 i0 _ .i64 .i64 Tryz.underlying25 Tryz.underlying3 hi0 hz0 (some ⟨g,0,none⟩) i cap (xs.take (i*3)) hold (n+m-i) (by omega) (by omega) (by omega) (by omega) (by rw [hzb];omega) (by rw [hzb,hik];exact growslice_fits hroom (by omega));rw [hik, <-hG, <-hROW] at h;rw [hkk];exact h
 have HP:Hid (n+m<=G/\G<=maxLen/\ROW.size=G*3/\ROW.toList.take (i*3)=xs.take (i*3)):=⟨hGn,hGm,hRs,hRt⟩;obtain ⟨W1,hW1⟩:∃W1,W1=w.drew.alloc (.cells ROW 82):=⟨_,rfl⟩
 have hN:W1.heap[w.heap.size]?=some (.cells ROW 82 (0,0)):=by rw [hW1];exact heap_alloc_new w.drew _
 have hO:∀b,b<w.heap.size->W1.heap[b]?=w.heap[b]?:=fun b hb=>by rw [hW1];exact Below.heap_alloc w.drew _ b hb
 have hcpA:∀(W:World),W.heap=W1.heap->∀ty dc,(Builtin.copy_ #[25,25] ty #[.slice (some ⟨w.heap.size,i*3,none⟩) (n+m-i) dc,.slice (some ⟨vb,0,none⟩) m m]).run Tryz.prog W= .ok (goInt m) (W.setCells w.heap.size (i*3) vs):=by
  intro W hW ty dc
  have e:Nat.min m (n+m-i)=m:=by show min _ _=_;omega
  have hN':=hN;have hv':=(hO vb hvw).trans hv;rw [<-hW] at hN' hv'
  have:=zbM (P:=Tryz.prog) W 25 25 ty 82 3 w.heap.size (i*3) (n+m-i) dc ⟨vb,0,none⟩ m m vs Tryz.underlying25 zft (by rw [e,hvl];omega)
   (fun j v hj=>by rw [zak,zcZ hv'];simpa using hj) (fun j hj=>zaK hN' _ (by omega)) h1v
  rw [e] at this;exact this
 have hGi:¬(G=i):=by omega
 have hGim:¬(G=i+m):=by omega
 have hci:¬(cap=i):=by omega
 have hcpB:∀(W:World),W.heap=(W1.setCells w.heap.size (i*3) vs).heap->∀ty dc sc,(Builtin.copy_ #[25,25] ty #[.slice (some ⟨w.heap.size,(i+m)*3,none⟩) (n+m-(i+m)) dc,.slice (some ⟨g,i*3,none⟩) (n-i) sc]).run Tryz.prog W= .ok (goInt ((n-i:Nat):Int)) (W.setCells w.heap.size ((i+m)*3) (xs.drop (i*3))):=by
  intro W hW ty dc sc
  have e:Nat.min (n-i) (n+m-(i+m))=n-i:=by show min _ _=_;omega
  have hN':=zaq (o:=i*3) (vs:=vs) hN (by omega);have hsz':=zav (cur:=ROW) (o:=i*3) (vs:=vs) (by omega)
  have hg':(W1.setCells w.heap.size (i*3) vs).heap[g]?=some (.cells cur 82 (0,0)):=by
   rw [zbk _ _ _ _ ROW W1 hN (by omega),setRow_other _ _ _ _ (by omega)];exact (hO g hbw).trans hg
  rw [<-hW] at hN' hg'
  have:=zbM (P:=Tryz.prog) W 25 25 ty 82 3 w.heap.size ((i+m)*3) (n+m-(i+m)) dc ⟨g,i*3,none⟩ (n-i) sc (xs.drop (i*3)) Tryz.underlying25 zft (by rw [e,hdl])
   (fun j v hj=>by rw [zak];exact zd0 hg' ht j v hj) (fun j hj=>zaK hN' _ (by omega)) (fun u hu=>h1 u (List.mem_of_mem_drop hu))
  rw [e] at this;exact this
 subst hW1;have hE1:((w.alloc (.cells ROW 82)).drew).heap=(w.drew.alloc (.cells ROW 82)).heap:=rfl;have hF1:(((w.alloc (.cells ROW 82)).drew.setCells w.heap.size (i*3) vs).drew).heap=((w.drew.alloc (.cells ROW 82)).setCells w.heap.size (i*3) vs).heap:=rfl
 have hm0:0<m:=by omega
 have hz1:¬((m:Int)=0):=by omega
 have hz2:¬((i:Int)=(n:Int)):=by omega
 have hz3:(cap:Int)<(n:Int)+(m:Int):=by omega
 have hw1:IntKind.i64.wrap ((i:Int)+(m:Int))=(i:Int)+(m:Int):=by rw [IntKind.wrap_i64];omega
 have hb1:(0:Int)<=(i:Int)+(m:Int):=by omega
 have hin:i<=n:=by omega
 have htn:((i:Int)+(m:Int)).toNat=i+m:=by omega
 have hb3:(i:Int)<=(n:Int):=by omega
 have hG63:G<=9223372036854775807:=by unfold maxLen at hGm;omega
 clear hkk hik hold hROW hG hRs hRt hg hv h1 h1v hvl hxl hdl ht hs hm1 hN hO hGm hzc
 go_enter Tryz.func119,Tryz.ntmps119
 go_wp2_with (first
  | (at_builtin;refine Lib.wpList_append_run _ rfl _ _ _ _ rfl _ _ rfl rfl _ _ (hrz _) ?_)
  | (at_builtin;refine wpList_copy_runI _ rfl _ _ 25 25 rfl _ _ rfl rfl (hcpA _ hE1 _ _) ?_)
  | (at_builtin;refine wpList_copy_runI _ rfl _ _ 25 25 rfl _ _ rfl rfl (hcpB _ rfl _ _ _) ?_))
 go_region_law_o (refine step_copy_runI rfl _ _ 25 25 rfl (.slice (some ⟨w.heap.size,(i+m)*3,none⟩) (n+m-(i+m)) (G-(i+m))) (.slice (some ⟨g,i*3,none⟩) (n-i) (cap-i)) (by simp [Act.eval,Act.put]) (by simp [Act.eval,Act.put]) (hcpB _ hF1 3 (G-(i+m)) (cap-i)) ?_)
 go_wp2
 go_ret;exact ⟨G,ROW,HP.out.1,HP.out.2.1,HP.out.2.2.1,HP.out.2.2.2,rfl,rfl⟩
theorem zli (l:List Dp.Fl) (base i:Nat) (v:Value) (f:Dp.Fl) (vb:Nat) (w:World) (ho:OwnL FL w base v l) (hi:i<=l.length) (hl:l.length<=1000000000) (hbw:base<=w.heap.size)
 (hv:w.heap[vb]?=some (.cells (zaj f).toArray 82 (0,0))) (hvo:v.ownBlock≠some vb):
 Calls Tryz.prog 119 #[v,.int .i64 (i:Int),.slice (some ⟨vb,0,none⟩) 1 1] w (OutL FL w base (l.take i++[f]++l.drop i)):=by
 rcases Nat.lt_or_ge i l.length with h | h
 · obtain ⟨g,cap,cur,rfl,hb,hg,hc,hm,hs,ht⟩:=zcA ho (by omega)
   have hvb:vb≠g:=fun e=>hvo (by rw [e];rfl)
   have e1:(l.take i++[f]++l.drop i).length=l.length+1:=by simp;omega
   have e2:FL.vals (l.take i++[f]++l.drop i)=(FL.vals l).take (i*3)++(zaj f)++(FL.vals l).drop (i*3):=by rw [FL.vals_append,FL.vals_append, <-vals_take, <-vals_drop];rfl
   have hD:((FL.vals l).drop (i*3)).length=(l.length-i)*3:=by rw [List.length_drop,vals_len];omega
   have h1v:∀u∈zaj f,u.oneCell'=true:=FL.one f
   rcases Nat.lt_or_ge cap (l.length+1) with hr | hr
   · refine (ins_grow l.length cap i 1 g vb cur (FL.vals l) (zaj f) w rfl h hc hr hl hg hs ht (FL.vals_cells l) hv rfl h1v).mono ?_
     rintro e w' ⟨G,ROW,hG,hGm,hRs,hRt,rfl,rfl⟩
     have h0:((w.alloc (.cells ROW 82)).drew).heap[w.heap.size]?=some (.cells ROW 82 (0,0)):=heap_alloc_new w _;have h1:=zaq (o:=i*3) (vs:=(zaj f)) h0 (by simp;omega);have h1':(((w.alloc (.cells ROW 82)).drew.setCells w.heap.size (i*3) (zaj f)).drew).heap[w.heap.size]?=some (.cells (splice ROW (i*3) (zaj f)) 82 (0,0)):=h1;have hs1:=zav (cur:=ROW) (o:=i*3) (vs:=(zaj f)) (by simp;omega);have h2:=zaq (o:=(i+1)*3) (vs:=(FL.vals l).drop (i*3)) h1' (by omega);refine OutL.mk ?_ ?_
     · rw [<-e1]
       refine zgC hbw h2 (by rw [e1];exact hG) hGm (by rw [zav (by omega),hs1];exact hRs) ?_
       rw [e1,zhp (by simp;omega) (by omega) _ (by omega),hRt,e2]
     · exact (((Below.refl _ w).alloc hbw _).drew.trans (zaH hbw _ _ _)).drew.trans (zaH hbw _ _ _)
   · refine (zlh l.length cap i 1 g vb cur (FL.vals l) (zaj f) w rfl h hr (by unfold maxLen at hm;omega) hvb hg hs ht (FL.vals_cells l) hv rfl h1v).mono ?_
     rintro e w' ⟨rfl,rfl⟩
     have h0:w.drew.heap[g]?=some (.cells cur 82 (0,0)):=hg;have h1:=zaq (o:=(i+1)*3) (vs:=(FL.vals l).drop (i*3)) h0 (by omega);have hs1:=zav (cur:=cur) (o:=(i+1)*3) (vs:=(FL.vals l).drop (i*3)) (by omega);have h2:=zaq (o:=i*3) (vs:=(zaj f)) h1 (by simp;omega);refine OutL.mk ?_ ?_
     · rw [<-e1]
       refine zgC hb h2 (by rw [e1];exact hr) hm (by rw [zav (by simp;omega),hs1];exact hs) ?_
       rw [e1,zja (by simp;omega) (by omega) _ (by omega),e2, <-ht,List.take_take,Nat.min_eq_left (by omega)]
     · exact ((Below.refl _ w).drew.trans (zaH hb _ _ _)).trans (zaH hb _ _ _)
 · obtain rfl:i=l.length:=by omega
   have e:l.take l.length++[f]++l.drop l.length=l++[f]:=by simp
   rw [e];exact ins_end l base v f vb w ho hl hbw hv
end Dsk
namespace Dsk
open Go.RowKit Dp
def zac (v:Value) (D:Dk):Value:= .agg #[v,.int .i64 D.c,.bool D.a,.int .i64 D.l,.bool D.x]
def DkB (D:Dk):Prop:=(-9223372036854775808<=D.c/\D.c<=9223372036854775807)/\(-9223372036854775808<=D.l/\D.l<=9223372036854775807)
theorem zbd {α:Type} {Y:Lay α} {w:World} {B B':Nat} {v:Value} {l:List α} (h:OwnL Y w B v l) (hb:B'<=B):OwnL Y w B' v l:=by
 refine ⟨h.1,?_⟩
 rcases h.2 with h0 | ⟨g,cap,cur,h1,h2,h3⟩
 · exact .inl h0
 · exact .inr ⟨g,cap,cur,h1,Nat.le_trans hb h2,h3⟩
def KeptOr (w:World) (B:Nat) (fv:Value) (l0:List Fl) (v:Value) (l:List Fl):Prop:=(v=fv/\l=l0)\/OwnL FL w B v l
structure DkRes (w:World) (fv:Value) (l0:List Fl) (R:Dk) (v:Value) (w':World):Prop where
 k:KeptOr w' w.heap.size fv l0 v R.f
 b:DkB R
 f:∀f∈R.f,FlB f
 n:R.f.length<=1000000001
 w:Below w.heap.size w w'
def zhd (w:World) (fv:Value) (l0:List Fl) (R:Dk×Int) (e:Ending) (w':World):Prop:=∃v,e= .returned (.tuple #[zac v R.1,.int .i64 R.2])/\DkRes w fv l0 R.1 v w'
def zaF (w:World) (base:Nat) (l:List Fl) (own:Int) (e:Ending) (w':World):Prop:=∃a n c,e= .returned (.tuple #[.slice a n c,.int .i64 own])/\(own=0->OwnL FL w' base (.slice a n c) l)/\Below base w w'
theorem zaF.no {w w':World} {base:Nat} {l:List Fl} {own:Int} (a:Option Addr) (n c:Nat) (h:own≠0) (b:Below base w w'):zaF w base l own (.returned (.tuple #[.slice a n c,.int .i64 own])) w':=⟨a,n,c,rfl,fun h'=>absurd h' h,b⟩
theorem zaF.yes {w w':World} {base:Nat} {l:List Fl} {a:Option Addr} {n c:Nat} (h:OwnL FL w' base (.slice a n c) l) (b:Below base w w'):zaF w base l 0 (.returned (.tuple #[.slice a n c,.int .i64 0])) w':=⟨a,n,c,rfl,fun _=>h,b⟩
theorem own_slice {w:World} {base:Nat} {v:Value} {l:List Fl} (h:OwnL FL w base v l):∃a n c,v= .slice a n c:=by
 rcases h.2 with ⟨h0,_⟩ | ⟨g,cap,cur,h1,_⟩
 · exact ⟨_,_,_,h0⟩
 · exact ⟨_,_,_,h1⟩
theorem zjb {cur:Array Value} {o n:Nat} {vs:List Value} (h:o+vs.length<=n) (hn:n<=cur.size):
 (splice cur o vs).toList.take n=(cur.toList.take n).take o++vs++(cur.toList.take n).drop (o+vs.length):=by
 unfold splice;show (cur.toList.take o++vs++cur.toList.drop (o+vs.length)).take n=_
 have hl:(cur.toList.take o++vs).length=o+vs.length:=by rw [List.length_append,List.length_take,Array.length_toList];omega
 rw [List.take_append,List.take_of_length_le (by omega),hl,List.take_take,Nat.min_eq_left (by omega),List.drop_take]
theorem zkU {w:World} {base g cap i:Nat} {cur:Array Value} {l:List Fl} (f:Fl) (hb:base<=g) (hg:w.heap[g]?=some (.cells cur 82 (0,0))) (hc:l.length<=cap) (hm:cap<=maxLen) (hs:cur.size=cap*3) (ht:cur.toList.take (l.length*3)=FL.vals l) (hi:i<l.length):
 OwnL FL (((w.setCell ⟨g,i*3,none⟩ (.string f.n)).setCell ⟨g,i*3+1,none⟩ (.string f.d)).setCell ⟨g,i*3+2,none⟩ (.int .i64 f.s)) base (.slice (some ⟨g,0,none⟩) l.length cap) (l.take i++[f]++l.drop (i+1)):=by
 have h3:(zaj f).length=3:=rfl
 have e1:(l.take i++[f]++l.drop (i+1)).length=l.length:=by simp;omega
 have hs1:=zav (cur:=cur) (o:=i*3) (vs:=zaj f) (by omega);have hg1:=zaq (o:=i*3) (vs:=zaj f) hg (by omega)
 have:=zgC (base:=base) (l:=l.take i++[f]++l.drop (i+1)) hb hg1 (by omega) hm (by omega) (by
  rw [e1,zjb (by omega) (by omega),ht,h3,show i*3+3=(i+1)*3 from by omega,vals_take,vals_drop,FL.vals_append,FL.vals_append,FL.vals_one];rfl)
 rw [e1] at this;exact this
theorem ziT {base g:Nat} {w:World} (hb:base<=g) (o:Nat) (x y z:Value):Below base w (((w.setCell ⟨g,o,none⟩ x).setCell ⟨g,o+1,none⟩ y).setCell ⟨g,o+2,none⟩ z):=zaH hb [x,y,z] o w
theorem put_any (l:List Fl) (base:Nat) (v:Value) (f:Fl) (w:World) (ho:OwnL FL w base v l) (hbw:base<=w.heap.size) (hu:Up l) (hl:l.length<=1000000000) (hb:∀x∈l,FlB x):
 Calls Tryz.prog 160 #[v,.agg #[.string f.n,.string f.d,.int .i64 f.s]] w (OutL FL w base (withF l f)):=by
 have F:=zid fun (W:World) (h:OwnL FL W base v l)=>zbN v l f.n W hu (by omega) (h.is (by unfold maxLen;omega) hb);have HH:=zid fun i (h:FoundF l f.n i true)=>h.with_hit hu (f:=f) rfl;have HM:=zid fun i (h:FoundF l f.n i false)=>h.with_miss hu (f:=f) rfl;have HO:=zid (ho.alloc (.cells #[.string f.n,.string f.d,.int .i64 f.s] 82));have B0:=zid ((Below.refl _ w).alloc hbw (.cells #[.string f.n,.string f.d,.int .i64 f.s] 82));have HN:=zid (zfN w (.string f.n) (.string f.d) (.int .i64 f.s) 82);have HB:=zid hbw;clear ho hu hb hbw
 go_enter Tryz.func160,Tryz.ntmps160
 go_wp2_with fail;refine (F.out _ HO.out).mono ?_;rintro e w1 ⟨i,b,rfl,hf,b1⟩;obtain ⟨z0,z1,z2,_⟩:=zdA HN.out b1;have HO1:=zid (HO.out.keep b1);have B1:=zid (B0.out.trans (b1.mono (by have:=B0.out.size;have:=HB.out;omega)));clear b1
 rcases b with _ | _
 · have hi:=hf.le
   have HF:=zid (HM.out i hf)
   clear hf;go_wp2_with fail;have hbw1:=Nat.le_trans HB.out (Nat.le_trans (by simp) (Nat.le_trans (Nat.le_refl _) B1.out.size));refine (zli l base i v f w1.heap.size _ (HO1.out.alloc _) hi hl (Nat.le_trans hbw1 (by simp)) (heap_alloc_new w1 _) (fun e=>absurd (HO1.out.lt _ e).2 (Nat.lt_irrefl _))).mono ?_;rintro e w2 ⟨v2,rfl,ho2,b2⟩;have HG:=zid (show OutL FL w base (withF l f) (.returned v2) w2 by rw [HF.out];exact OutL.mk ho2 ((B1.out.alloc hbw1 _).trans b2));clear ho2 b2;go_wp2_with fail;go_ret;exact HG.out
 · obtain ⟨hi,hx⟩:=hf.hit rfl
   clear hx
   have HF:=zid (HH.out i hf);clear hf;obtain ⟨g,cap,cur,rfl,hb,hg,hc,hm,hs,ht⟩:=zcA HO1.out (by omega);have HS:=zid (zkU f hb hg hc hm hs ht hi);have HG:=zid (show OutL FL w base (withF l f) (.returned (.slice (some ⟨g,0,none⟩) l.length cap)) _ by rw [HF.out];exact OutL.mk HS.out (B1.out.trans (ziT hb _ _ _ _)));obtain ⟨y0,hy0⟩:=Option.isSome_iff_exists.1 (zaK hg (i*3) (by omega)).1;obtain ⟨y1,hy1⟩:=Option.isSome_iff_exists.1 (zaK hg (i*3+1) (by omega)).1;obtain ⟨y2,hy2⟩:=Option.isSome_iff_exists.1 (zaK hg (i*3+2) (by omega)).1;have hf0:=(zaK hg (i*3) (by omega)).2;have hf1:=(zaK hg (i*3+1) (by omega)).2;have hf2:=(zaK hg (i*3+2) (by omega)).2;clear hg hs ht HS hb;generalize l.length=len at*;go_wp2_with fail;go_ret;exact HG.out
end Dsk
end Go.Proofs.YtgmppfpllogdcaaGreat

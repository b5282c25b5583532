/-
  Parts of what the laws of this seat stand on:DiskStep,DiskRen,DiskAll.
-/
import Derived.Test.YtgmppfpllogdcaaGreatBi1
import Derived.Deep.RegionWith
import Derived.Test.YtgmppfpllogdcaaGreatBi10
set_option maxRecDepth 100000
set_option maxHeartbeats 6400000
namespace Go.Proofs.YtgmppfpllogdcaaGreat
namespace Dsk
open Go.RowKit Dp
theorem zdx {l:List Fl} {n:ByteArray} {i:Nat} {b:Bool} (h:FoundF l n i b) (hu:Up l) (hg:get l n=none):b=false:=by
 have h1:=h.get hu zero;rw [hg] at h1
 cases b with
 | false=>rfl
 | true=>simp at h1
theorem zcn {l:List Fl} {n:ByteArray} {i:Nat} {b:Bool} {f:Fl} (h:FoundF l n i b) (hu:Up l) (hg:get l n=some f):b=true/\i<l.length/\l.getD i zero=f:=by
 have h1:=h.get hu zero;rw [hg] at h1
 cases b with
 | false=>simp at h1
 | true=>exact ⟨rfl,(h.hit rfl).1,by simpa using h1.symm⟩
theorem ziZ (n:ByteArray) (l:List Fl) (base:Nat) (v:Value) (b1 b2:Nat) (w:World) (h1:w.cell? ⟨b1,0,none⟩=some (.string n)) (ho:OwnL FL w base v l) (hbw:base<=w.heap.size) (hu:Up l) (hl:l.length<=1000000000) (hb:∀x∈l,FlB x) (hg:get l n=none):
 Calls Tryz.prog 141 #[v,.pointer (some ⟨b1,0,none⟩),.pointer (some ⟨b2,0,none⟩)] w (zaF w base [] 7):=by
 obtain ⟨va,vn,vc,rfl⟩:=own_slice ho;have F:=zid (zbN _ l n w hu (by omega) (ho.is (by unfold maxLen;omega) hb));have HG:=zid fun i b (h:FoundF l n i b)=>zdx h hu hg;clear ho hu hl hb hg
 go_enter Tryz.func141,Tryz.ntmps141
 go_wp2_with fail;refine F.out.mono ?_;rintro e w1 ⟨i,b,rfl,hf,b1'⟩;obtain rfl:=HG.out i b hf;have HB:=zid (b1'.mono hbw);clear hf b1';go_wp2_with fail;go_ret2;exact zaF.no _ _ _ (by decide) HB.out
theorem zhe (n:ByteArray) (l:List Fl) (base:Nat) (v:Value) (b1 b2:Nat) (w:World) (h1:w.cell? ⟨b1,0,none⟩=some (.string n)) (ho:OwnL FL w base v l) (hbw:base<=w.heap.size) (hu:Up l) (hl:l.length<=1000000000) (hb:∀x∈l,FlB x)
 (f g:Fl) (er:Int) (N:Nat) (caps:Array Value) (hg:get l n=some f) (hn:g.n=n) (EN:∀args w,(callFunc N args).run Tryz.prog w= .ok (.enter N args) w) (h2:w.cell? ⟨b2,0,none⟩=some (.func (.func N) #[] caps))
 (IN:∀W,Below w.heap.size w W->Calls Tryz.prog N (#[.agg #[.string f.n,.string f.d,.int .i64 f.s]]++caps) W (zdL W g er)):
 Calls Tryz.prog 141 #[v,.pointer (some ⟨b1,0,none⟩),.pointer (some ⟨b2,0,none⟩)] w (zaF w base (withF l g) er):=by
 obtain ⟨va,vn,vc,rfl⟩:=own_slice ho;have F:=zid (zbN _ l n w hu (by omega) (ho.is (by unfold maxLen;omega) hb));have HG:=zid fun i b (h:FoundF l n i b)=>zcn h hu hg;have HH:=zid fun i (h:FoundF l n i true)=>h.with_hit hu hn;have HO:=zid ho;have HI:=zid IN;have HE:=zid EN;have HW:=zid hbw;clear ho hu hl hb hg IN EN hbw hn
 go_enter Tryz.func141,Tryz.ntmps141
 go_wp2_with fail;refine F.out.mono ?_;rintro e w1 ⟨i,b,rfl,hf,b1'⟩;obtain ⟨rfl,hi,hfe⟩:=HG.out i b hf;have HF:=zid (HH.out i hf);have HO1:=HO.out.keep b1';have B1:=zid b1'
 have x2:w1.cell? ⟨b2,0,none⟩=some (.func (.func N) #[] caps):=by rw [b1'.cell (p:=⟨b2,0,none⟩) (block_lt_of_cell h2)];exact h2
 obtain ⟨gb,cap,cur,he,hgb,hgc,hcl,hcm,hcs,hct⟩:=zcA HO1 (by omega)
 injection he with e1 e2 e3
 subst e1 e2 e3;have hci:=fun j u (hj:(FL.vals l)[j]?=some u)=>World.ownsRow.cells HO1 (g:=gb) rfl j u hj;have k0:=hci (i*3+0) _ (FL.vals_get l i 0 hi (by decide));have k1:=hci (i*3+1) _ (FL.vals_get l i 1 hi (by decide));have k2:=hci (i*3+2) _ (FL.vals_get l i 2 hi (by decide));rw [zak] at k0 k1 k2
 change w1.cell? _=some (.string (l.getD i zero).n) at k0
 change w1.cell? _=some (.string (l.getD i zero).d) at k1
 change w1.cell? _=some (.int .i64 (l.getD i zero).s) at k2
 rw [hfe] at k0 k1 k2;simp only [Nat.zero_add,Nat.add_zero] at k0 k1 k2;have HO1:=zid HO1;clear hf b1' hci hfe hgc hct hcs;have hgl:=block_lt_of_cell k0;have hbl:=block_lt_of_cell x2;obtain ⟨len,hlen⟩:∃len,l.length=len:=⟨_,rfl⟩;rw [hlen] at hi hcl HO1 F HO ⊢;have HL:=zid hlen;clear hlen;go_wp2_with fail
 go_cut [8,9] (fun p q w2=>∃t:Nat,p= .pointer (some ⟨t,0,none⟩)/\q= .int .i64 er/\w2.heap[t]?=some (.cells #[.string g.n,.string g.d,.int .i64 g.s] 82 (0,0))/\Below w1.heap.size w1 w2)
 case first=>
  go_region_with (first | (rw [HE.out,Oper.upon_enter];refine (HI.out _ (by first | exact B1.out.drew | exact B1.out.drew.alloc B1.out.size _)).mono ?_;rintro e w4 ⟨rfl,b4⟩;obtain ⟨hc4,hf4⟩:=bcell b4))
  all_goals go_wp2_with fail
  all_goals go_meet
  all_goals
   case rel=>
    first
     | exact ⟨_,rfl,rfl,heap_alloc_new w4 _,((Below.refl _ w1).drew.trans b4).alloc b4.size _⟩
     | exact ⟨_,rfl,rfl,zdu (hkeep (heap_alloc_new w1.drew _) b4) _ _ _,bel_st3 (((Below.refl _ w1).drew.alloc (Nat.le_refl _) _).trans (b4.mono (by simp))) (Nat.le_refl _) _ _ _⟩
 case rest=>
  obtain ⟨t,rfl,rfl,hh,b2⟩:=hcut;have HO2:=HO1.out.keep b2;have B2:=zid ((B1.out.mono HW.out).trans (b2.mono (by have:=B1.out.size;have:=HW.out;omega)));obtain ⟨gb',cap',cur',he',hgb',hgc',hcl',hcm',hcs',hct'⟩:=zcA HO2 (by rw [HL.out];omega);rw [HL.out] at he' hcl'
  injection he' with e1 e2 e3
  injection e1 with e1
  injection e1 with e1
  subst e1 e3
  have hi':i<l.length:=by rw [HL.out];exact hi
  have HS:=zkU g hgb' hgc' (by rw [HL.out];exact hcl') hcm' hcs' hct' hi';rw [HL.out] at HS;have HG:=zid (show zaF w base (withF l g) er (.returned (.tuple #[.slice (some ⟨gb,0,none⟩) len vc,.int .i64 er])) _ from ⟨_,_,_,rfl,fun _=>by rw [HF.out];exact HS,B2.out.trans (ziT hgb' _ _ _ _)⟩);obtain ⟨y0,hy0⟩:=Option.isSome_iff_exists.1 (zaK hgc' (i*3) (by omega)).1;obtain ⟨y1,hy1⟩:=Option.isSome_iff_exists.1 (zaK hgc' (i*3+1) (by omega)).1;obtain ⟨y2,hy2⟩:=Option.isSome_iff_exists.1 (zaK hgc' (i*3+2) (by omega)).1;have hf0:=(zaK hgc' (i*3) (by omega)).2;have hf1:=(zaK hgc' (i*3+1) (by omega)).2;have hf2:=(zaK hgc' (i*3+2) (by omega)).2;obtain ⟨d0,d1,d2⟩:=cells3 hh;clear hgc' hcs' hct' HS hgb' hi' HO2 hh b2 k0 k1 k2;go_wp2_with fail;go_ret2;exact HG.out
theorem zh0 (n:ByteArray) (l:List Fl) (base:Nat) (v:Value) (b1:Nat) (w:World) (hn:n.size<=9223372036854775807) (h1:w.cell? ⟨b1,0,none⟩=some (.string n)) (ho:OwnL FL w base v l) (hbw:base<=w.heap.size) (hu:Up l) (hl:l.length<=1000000000) (hb:∀x∈l,FlB x) (own:Int)
 (hown:(own=1/\¬Named n)\/(own=8/\Named n/\get l n≠none)\/(own=0/\Named n/\get l n=none)):
 Calls Tryz.prog 116 #[v,.pointer (some ⟨b1,0,none⟩)] w (zaF w base (withF l ⟨n,⟨#[]⟩,0⟩) own):=by
 obtain ⟨va,vn,vc,rfl⟩:=own_slice ho;have M:=fun W:World=>zdc n W hn
 rcases hown with ⟨rfl,hN⟩ | ⟨rfl,hN,hg⟩ | ⟨rfl,hN,hg⟩
 · rw [decide_eq_false hN] at M
   have M:=zid M
   clear ho hu hl hb hN hn
   go_enter Tryz.func116,Tryz.ntmps116
   go_wp2_with fail;refine (M.out _).mono ?_;rintro e w1 ⟨rfl,rfl⟩;go_wp2_with fail;go_ret2;exact zaF.no _ _ _ (by decide) (Below.refl _ _)
 · rw [decide_eq_true hN] at M
   have M:=zid M
   have F:=zid (zbN _ l n w hu (by omega) (ho.is (by unfold maxLen;omega) hb));obtain ⟨f0,hf0⟩:=Option.ne_none_iff_exists'.1 hg;have HG:=zid fun i b (h:FoundF l n i b)=>(zcn h hu hf0).1;clear ho hu hl hb hN hn hg hf0
   go_enter Tryz.func116,Tryz.ntmps116
   go_wp2_with fail;refine (M.out _).mono ?_;rintro e w1 ⟨rfl,rfl⟩;go_wp2_with fail;refine F.out.mono ?_;rintro e w1 ⟨i,b,rfl,hf,b1'⟩;obtain rfl:=HG.out i b hf;have HB:=zid (b1'.mono hbw);clear hf b1';go_wp2_with fail;go_ret2;exact zaF.no _ _ _ (by decide) HB.out
 · rw [decide_eq_true hN] at M
   have M:=zid M
   have F:=zid (zbN _ l n w hu (by omega) (ho.is (by unfold maxLen;omega) hb));have HG:=zid fun i b (h:FoundF l n i b)=>zdx h hu hg;have HM:=zid fun i (h:FoundF l n i false)=>h.with_miss hu (f:=⟨n,⟨#[]⟩,0⟩) rfl;have HO:=zid ho;have l1:=block_lt_of_cell h1;clear ho hu hb hN hn hg
   go_enter Tryz.func116,Tryz.ntmps116
   go_wp2_with fail;refine (M.out _).mono ?_;rintro e w1 ⟨rfl,rfl⟩;go_wp2_with fail;refine F.out.mono ?_;rintro e w1 ⟨i,b,rfl,hf,b1'⟩;obtain rfl:=HG.out i b hf;have hi:=hf.le;have HF:=zid (HM.out i hf);have HO1:=zid (HO.out.keep b1');have B1:=zid (b1'.mono hbw)
   have x1:w1.cell? ⟨b1,0,none⟩=some (.string n):=by rw [b1'.cell (p:=⟨b1,0,none⟩) l1];exact h1
   have hbw1:=Nat.le_trans hbw b1'.size;clear hf b1';go_wp2_with fail;refine (zli l base i _ ⟨n,⟨#[]⟩,0⟩ w1.heap.size _ (HO1.out.alloc _) hi hl (Nat.le_trans hbw1 (by simp)) (heap_alloc_new w1 _) (fun e=>absurd (HO1.out.lt _ e).2 (Nat.lt_irrefl _))).mono ?_;rintro e w2 ⟨v2,rfl,ho2,b2⟩;obtain ⟨ga,gn,gc,rfl⟩:=own_slice ho2;have HG:=zid (show zaF w base (withF l ⟨n,⟨#[]⟩,0⟩) 0 (.returned (.tuple #[.slice ga gn gc,.int .i64 0])) w2 from zaF.yes (by rw [HF.out];exact ho2) ((B1.out.alloc hbw1 _).trans b2));clear ho2 b2;go_wp2_with fail;go_ret2;exact HG.out
theorem zhY (n:ByteArray) (l:List Fl) (base:Nat) (v:Value) (b1:Nat) (w:World) (h1:w.cell? ⟨b1,0,none⟩=some (.string n)) (ho:OwnL FL w base v l) (hbw:base<=w.heap.size) (hu:Up l) (hl:l.length<=1000000000) (hb:∀x∈l,FlB x) (own:Int)
 (hown:(own=7/\get l n=none)\/(own=0/\get l n≠none)):
 Calls Tryz.prog 120 #[v,.pointer (some ⟨b1,0,none⟩)] w (zaF w base (without l n) own):=by
 obtain ⟨va,vn,vc,rfl⟩:=own_slice ho;have F:=zid (zbN _ l n w hu (by omega) (ho.is (by unfold maxLen;omega) hb))
 rcases hown with ⟨rfl,hg⟩ | ⟨rfl,hg⟩
 · have HG:=zid fun i b (h:FoundF l n i b)=>zdx h hu hg
   clear ho hu hl hb hg
   go_enter Tryz.func120,Tryz.ntmps120
   go_wp2_with fail;refine F.out.mono ?_;rintro e w1 ⟨i,b,rfl,hf,b1'⟩;obtain rfl:=HG.out i b hf;have HB:=zid (b1'.mono hbw);clear hf b1';go_wp2_with fail;go_ret2;exact zaF.no _ _ _ (by decide) HB.out
 · obtain ⟨f0,hf0⟩:=Option.ne_none_iff_exists'.1 hg
   have HG:=zid fun i b (h:FoundF l n i b)=>zcn h hu hf0
   have HM:=zid fun i (h:FoundF l n i true)=>h.wo hu;have HO:=zid ho;clear ho hu hb hg hf0
   go_enter Tryz.func120,Tryz.ntmps120
   go_wp2_with fail;refine F.out.mono ?_;rintro e w1 ⟨i,b,rfl,hf,b1'⟩;obtain ⟨rfl,hi,_⟩:=HG.out i b hf;have HF:=zid (HM.out i hf);have HO1:=zid (HO.out.keep b1');have B1:=zid (b1'.mono hbw);clear hf b1';go_wp2_with fail;refine (del_any l base i _ w1 HO1.out hi).mono ?_;rintro e w2 ⟨v2,rfl,ho2,b2⟩;obtain ⟨ga,gn,gc,rfl⟩:=own_slice ho2;have HG:=zid (show zaF w base (without l n) 0 (.returned (.tuple #[.slice ga gn gc,.int .i64 0])) w2 from zaF.yes (by rw [HF.out];exact ho2) (B1.out.trans b2));clear ho2 b2;go_wp2_with fail;go_ret2;exact HG.out
theorem del_more (l:List Fl) (base i:Nat) (v:Value) (w:World) (ho:OwnL FL w base v l) (hi:i<l.length):
 Calls Tryz.prog 121 #[v,.int .i64 (i:Int),.int .i64 ((i:Int)+1)] w fun e w'=>OutL FL w base (l.take i++l.drop (i+1)) e w'/\∀k,v.ownBlock≠some k->w'.heap[k]?=w.heap[k]?:=by
 obtain ⟨g,cap,cur,rfl,hb,hg,hc,hm,hs,ht⟩:=zcA ho (by omega);refine (zlA l.length cap i (i+1) g cur (FL.vals l) w rfl (by omega) hc hg hs ht (FL.vals_cells l)).mono ?_;rintro e w' ⟨rfl,rfl⟩;have hgd:w.drew.heap[g]?=some (.cells cur 82 (0,0)):=hg
 have hD:((FL.vals l).drop ((i+1)*3)).length=(l.length-(i+1))*3:=by rw [List.length_drop,vals_len];omega
 have h1:=zaq (o:=i*3) (vs:=(FL.vals l).drop ((i+1)*3)) hgd (by omega);have hz:noughts.length=3:=rfl;have hs1:=zav (cur:=cur) (o:=i*3) (vs:=(FL.vals l).drop ((i+1)*3)) (by omega);have h2:=zaq (o:=(i+(l.length-(i+1)))*3) (vs:=noughts) h1 (by omega)
 have e1:(l.take i++l.drop (i+1)).length=i+(l.length-(i+1)):=by simp;omega
 refine ⟨⟨_,rfl,?_,(zaH hb _ _ w.drew).trans (zaH hb _ _ _) |> fun h=>⟨h.os,h.tape,h.output,h.size,h.block⟩⟩,fun k hk=>?_⟩
 · rw [<-e1]
   refine zgC hb (by rw [e1];exact h2) (by omega) hm (by rw [zav (by omega),hs1];exact hs) ?_
   rw [e1,zcI (by omega) _ (Nat.le_refl _),zcv (by omega) _ (by omega),FL.vals_append, <-vals_take, <-vals_drop, <-ht,List.take_take,Nat.min_eq_left (by omega)]
 · have hkg:k≠g:=fun e=>hk (by rw [e];rfl)
   rw [zbk g _ _ _ _ _ h1 (by omega),setRow_other _ _ _ _ hkg,zbk g _ _ _ _ _ hgd (by omega),setRow_other _ _ _ _ hkg]
   rfl
theorem zeV (n m:ByteArray) (l:List Fl) (base:Nat) (v:Value) (b1 b2:Nat) (w:World) (hm:m.size<=9223372036854775807) (h1:w.cell? ⟨b1,0,none⟩=some (.string n)) (h2:w.cell? ⟨b2,0,none⟩=some (.string m)) (ho:OwnL FL w base v l) (hbw:base<=w.heap.size) (hu:Up l) (hl:l.length<=1000000000) (hb:∀x∈l,FlB x) (own:Int)
 (hown:(own=7/\get l n=none)\/(own=1/\get l n≠none/\¬Named m)):
 Calls Tryz.prog 159 #[v,.pointer (some ⟨b1,0,none⟩),.pointer (some ⟨b2,0,none⟩)] w (zaF w base [] own):=by
 obtain ⟨va,vn,vc,rfl⟩:=own_slice ho;have F:=zid (zbN _ l n w hu (by omega) (ho.is (by unfold maxLen;omega) hb))
 rcases hown with ⟨rfl,hg⟩ | ⟨rfl,hg,hN⟩
 · have HG:=zid fun i b (h:FoundF l n i b)=>zdx h hu hg
   clear ho hu hl hb hg
   go_enter Tryz.func159,Tryz.ntmps159
   go_wp2_with fail;refine F.out.mono ?_;rintro e w1 ⟨i,b,rfl,hf,b1'⟩;obtain rfl:=HG.out i b hf;have HB:=zid (b1'.mono hbw);clear hf b1';go_wp2_with fail;go_ret2;exact zaF.no _ _ _ (by decide) HB.out
 · obtain ⟨f0,hf0⟩:=Option.ne_none_iff_exists'.1 hg
   have HG:=zid fun i b (h:FoundF l n i b)=>(zcn h hu hf0).1
   have M:=fun W:World=>zdc m W hm;rw [decide_eq_false hN] at M;have M:=zid M;clear ho hu hl hb hg hf0 hN
   go_enter Tryz.func159,Tryz.ntmps159
   go_wp2_with fail;refine F.out.mono ?_;rintro e w1 ⟨i,b,rfl,hf,b1'⟩;obtain rfl:=HG.out i b hf
   have x2:w1.cell? ⟨b2,0,none⟩=some (.string m):=by rw [b1'.cell (p:=⟨b2,0,none⟩) (block_lt_of_cell h2)];exact h2
   have HB:=zid (b1'.mono hbw);clear hf b1';go_wp2_with fail;refine (M.out _).mono ?_;rintro e w1 ⟨rfl,rfl⟩;go_wp2_with fail;go_ret2;exact zaF.no _ _ _ (by decide) HB.out
theorem zhI (n m:ByteArray) (l:List Fl) (base:Nat) (v:Value) (b1 b2:Nat) (w:World) (hm:m.size<=9223372036854775807) (h1:w.cell? ⟨b1,0,none⟩=some (.string n)) (h2:w.cell? ⟨b2,0,none⟩=some (.string m)) (ho:OwnL FL w base v l) (hbw:base<=w.heap.size) (hu:Up l) (hl:l.length<=1000000000) (hb:∀x∈l,FlB x)
 (f:Fl) (hg:get l n=some f) (hN:Named m):
 Calls Tryz.prog 159 #[v,.pointer (some ⟨b1,0,none⟩),.pointer (some ⟨b2,0,none⟩)] w (zaF w base (withF (without l n) ⟨m,f.d,f.s⟩) 0):=by
 obtain ⟨va,vn,vc,rfl⟩:=own_slice ho;have F:=zid (zbN _ l n w hu (by omega) (ho.is (by unfold maxLen;omega) hb));have HG:=zid fun i b (h:FoundF l n i b)=>zcn h hu hg;have M:=fun W:World=>zdc m W hm;rw [decide_eq_true hN] at M;have M:=zid M;have hwl:(without l n).length<=l.length:=List.length_filter_le _ _;have P:=zid fun (W:World) (v':Value) (h:OwnL FL W base v' (without l n)) (hB:base<=W.heap.size)=>put_any (without l n) base v' ⟨m,f.d,f.s⟩ W h hB (hu.without n) (by omega) (fun x hx=>hb x (zaJ.1 hx).1);have D:=zid fun (i:Nat) (W:World) (h:OwnL FL W base (.slice va vn vc) l) (hi:i<l.length)=>del_more l base i _ W h hi;have HM:=zid fun i (h:FoundF l n i true)=>h.wo hu;have HO:=zid ho;clear ho hu hb hg hN hwl hm
 go_enter Tryz.func159,Tryz.ntmps159
 go_wp2_with fail;refine F.out.mono ?_;rintro e w1 ⟨i,b,rfl,hf,b1'⟩;obtain ⟨rfl,hi,hfe⟩:=HG.out i b hf;have HF:=HM.out i hf;have D:=D.out i;rw [<-HF] at D
 have x2:w1.cell? ⟨b2,0,none⟩=some (.string m):=by rw [b1'.cell (p:=⟨b2,0,none⟩) (block_lt_of_cell h2)];exact h2
 have l2:=block_lt_of_cell x2;have HO1:=HO.out.keep b1';have B1:=zid (b1'.mono hbw);have hbw1:=Nat.le_trans hbw b1'.size;obtain ⟨gb,cap,cur,he,hgb,hgc,hcl,hcm,hcs,hct⟩:=zcA HO1 (by omega)
 injection he with e1 e2 e3
 subst e1 e2 e3;have hci:=fun j u (hj:(FL.vals l)[j]?=some u)=>World.ownsRow.cells HO1 (g:=gb) rfl j u hj;have k0:=hci (i*3+0) _ (FL.vals_get l i 0 hi (by decide));have k1:=hci (i*3+1) _ (FL.vals_get l i 1 hi (by decide));have k2:=hci (i*3+2) _ (FL.vals_get l i 2 hi (by decide));rw [zak] at k0 k1 k2
 change w1.cell? _=some (.string (l.getD i zero).n) at k0
 change w1.cell? _=some (.string (l.getD i zero).d) at k1
 change w1.cell? _=some (.int .i64 (l.getD i zero).s) at k2
 rw [hfe] at k0 k1 k2;simp only [Nat.zero_add,Nat.add_zero] at k0 k1 k2;have hgl:=block_lt_of_cell k0;have HO3:=zid (HO1.alloc (.cells #[.string m,.string f.d,.int .i64 f.s] 82));have G3:=zid (heap_alloc_new w1 (.cells #[.string m,.string f.d,.int .i64 f.s] 82));have B3:=zid (B1.out.alloc hbw1 (.cells #[.string m,.string f.d,.int .i64 f.s] 82));have S3:=zid (show base<=(w1.alloc (.cells #[.string m,.string f.d,.int .i64 f.s] 82)).heap.size from Nat.le_trans hbw1 (by simp));have DD:=zid fun W h=>D W h hi;clear hf b1' hci hfe hgc hct hcs HO1 D HF hgb;obtain ⟨len,hlen⟩:∃len,l.length=len:=⟨_,rfl⟩;rw [hlen] at hi hl hcl DD F HO HO3 ⊢;have HL:=zid hlen;clear hlen;go_wp2_with fail;refine (M.out _).mono ?_;rintro e w1' ⟨rfl,rfl⟩;go_wp2_with fail;generalize w1.alloc _=w3 at HO3 G3 B3 S3 ⊢
 have hne:gb≠w1.heap.size:=by omega
 have hneO:(Value.slice (some ⟨gb,0,none⟩) len vc).ownBlock≠some w1.heap.size:=fun e=>hne (by injection e);obtain ⟨d0,d1,d2⟩:=cells3 G3.out;have HNE:=zid hneO
 have hw1:IntKind.i64.wrap ((i:Int)+1)=(i:Int)+1:=by rw [IntKind.wrap_i64];omega
 clear hneO hne
 go_region_with (first | (go_at_call 121;refine (DD.out _ (HO3.out.keep (Below.refl _ _).drew)).mono ?_;rintro e w4 ⟨⟨v2,rfl,ho2,b2⟩,hk2⟩;obtain ⟨x0,x1,x2'⟩:=cells3 ((hk2 _ HNE.out).trans G3.out);have HO4:=zid ho2;have B4:=zid (B3.out.drew.trans b2);have S4:=zid (Nat.le_trans S3.out b2.size);clear ho2 b2 hk2) | (go_at_call 160;refine (P.out _ _ HO4.out S4.out).mono ?_;rintro e w5 ⟨v3,rfl,ho3,b3⟩;obtain ⟨ga,gn,gc,rfl⟩:=own_slice ho3;have HG5:=zid (show zaF w base (withF (without l n) ⟨m,f.d,f.s⟩) 0 (.returned (.tuple #[.slice ga gn gc,.int .i64 0])) w5 from zaF.yes ho3 (B4.out.trans b3));clear ho3 b3))
 all_goals
  go_wp2_with fail
  go_ret2;exact HG5.out
structure Sm (D:Dk):Prop where
 b:DkB D
 r:Right D
 n:D.f.length<=1000000
 u:used D.f<=1000000000
theorem zcr {l:List Fl} {f:Fl} (h:f∈l):f.d.size<=used l:=by
 induction l with
 | nil=>cases h
 | cons g l ih=>
  rw [zax]
  rcases List.mem_cons.1 h with rfl | h
  · omega
  · have:=ih h;omega
theorem flb_of {f:Fl} (h:FOk f) (hd:f.d.size<=9223372036854775807):FlB f:=⟨by have:=h.1.2;omega,hd,by have:=h.2.1;omega,by have:=h.2.2;omega⟩
theorem Sm.flb {D:Dk} (h:Sm D):∀f∈D.f,FlB f:=fun f hf=>flb_of (h.r.1 f hf) (by have:=zcr hf;have:=h.u;omega)
theorem Sm.l0 {D:Dk} (h:Sm D):0<=D.l:=h.r.2.2.2
theorem zcS (l:List Fl) (f:Fl):(withF l f).length<=l.length+1:=by
 unfold withF;rw [List.length_append,List.length_append]
 have h:(l.filter fun g=>decide (Lt g.n f.n)).length+(l.filter fun g=>decide (Lt f.n g.n)).length<=l.length:=by
  induction l with
  | nil=>exact Nat.le_refl _
  | cons g l ih=>
   by_cases h1:Lt g.n f.n
   · rw [List.filter_cons_of_pos (by simpa using h1),List.filter_cons_of_neg (by simpa using h1.asymm),List.length_cons,List.length_cons];omega
   · by_cases h2:Lt f.n g.n
     · rw [List.filter_cons_of_neg (by simpa using h1),List.filter_cons_of_pos (by simpa using h2),List.length_cons,List.length_cons];omega
     · rw [List.filter_cons_of_neg (by simpa using h1),List.filter_cons_of_neg (by simpa using h2),List.length_cons];omega
 simp only [List.length_singleton];omega
theorem zc4 (D:Dk) (l l':List Fl) {own:Int} (h:own≠0):change D l own=change D l' own:=by
 unfold change
 split
 · rfl
 · first | rfl | rw [if_pos h,if_pos h]
theorem enters {N:Nat} {fn:Func} {c:Code} (hf:Tryz.prog.funcs[N]?=some fn) (hname:(fn.name == "runtime.NumGoroutine")=false) (hb:fn.body=some c) (args:Array Value) (w:World):(callFunc N args).run Tryz.prog w= .ok (.enter N args) w:=by
 have h1:fn.name≠ "runtime.NumGoroutine" :=by simpa using hname
 simp [callFunc,hf,h1,hb]
theorem zjO (fv:Value) (D:Dk) (n:ByteArray) (w:World) (hv:IsL FL w fv D.f) (hS:Sm D) (hn:n.size<=9223372036854775807):
 Calls Tryz.prog 97 #[zac fv D,.string n] w (zhd w fv D.f (create D n)):=by
 obtain ⟨own,hown,hR⟩:∃own:Int,((own=1/\¬Named n)\/(own=8/\Named n/\get D.f n≠none)\/(own=0/\Named n/\get D.f n=none))/\create D n=change D (withF D.f ⟨n,⟨#[]⟩,0⟩) own:=by
  unfold create
  by_cases h1:Named n
  · rw [if_neg (fun h=>h h1)]
    cases hg:get D.f n with
    | none=>exact ⟨0,.inr (.inr ⟨rfl,h1,rfl⟩),rfl⟩
    | some f=>exact ⟨8,.inr (.inl ⟨rfl,h1,by simp⟩),by rw [if_pos (by rfl)];exact zc4 D _ _ (by decide)⟩
  · exact ⟨1,.inl ⟨rfl,h1⟩,by rw [if_pos h1];exact zc4 D _ _ (by decide)⟩
 rw [hR]
 have HC:=zid fun (fv:Value) (b:Nat) (W:World) (h:IsL FL W fv D.f) (hx:W.cell? ⟨b,0,none⟩=some (.string n))=>
  zcp 116 #[.pointer (some ⟨b,0,none⟩)] fv D (withF D.f ⟨n,⟨#[]⟩,0⟩) own W h hS.b hS.l0 (by have:=hS.n;omega)
   (fun ho=>⟨by have:=zcS D.f ⟨n,⟨#[]⟩,0⟩;have:=hS.n;omega,fun f hf=>by
    rcases zbH.1 hf with h1 | rfl
    · exact hS.flb f h1.1
    · exact ⟨hn,Nat.zero_le _,by show (-9223372036854775808:Int)<=0;omega,by show (0:Int)<=_;omega⟩⟩)
   (enters Tryz.func116 (by kernel_rfl) (by rfl))
   (fun base v W' ho h1 h2 h3=>zh0 n D.f base v b W' hn (by rw [h3.cell (p:=⟨b,0,none⟩) (block_lt_of_cell hx)];exact hx) ho h2 hS.r.2.1 (by have:=hS.n;omega) hS.flb own hown)
 have HV:=zid hv
 obtain ⟨fa,fn,fc,rfl⟩:∃a n c,fv= .slice a n c:=by obtain ⟨a,c,h,_⟩:=hv;exact ⟨a,_,c,h⟩
 have hmf:=made_func;obtain ⟨g0,g1,g2,gb,gs⟩:=zfh w #[.slice fa fn fc,.int .i64 D.c,.bool D.a,.int .i64 D.l,.bool D.x] #[.string n] #[.slice none 0 0,.int .i64 0,.bool false,.int .i64 0,.bool false] 27 9 27;have G1:=zid g1;have G2:=zid g2;have GB:=zid gb;have GS:=zid gs;generalize change D _ own=R at*;clear hv hS hn hown hR g0 g1 g2 gb gs;unfold zac
 go_enter Tryz.func97,Tryz.ntmps97
 go_wp2_with fail;generalize World.alloc (World.alloc (World.alloc w _) _) _=w0 at G1 G2 GB GS ⊢;have HL:=zid (show w.heap.size+1+1<w0.heap.size by have:=GS.out;omega);refine (HC.out _ _ w0 (HV.out.keep GB.out) (zaE G1.out).1).mono ?_;rintro e w1 ⟨v1,rfl,hres⟩
 obtain ⟨ga,gn,gc,rfl⟩:∃a n c,v1= .slice a n c:=by
  rcases hres.k with ⟨k,_⟩ | k
  · exact ⟨_,_,_,k⟩
  · exact own_slice k
 have HRS:=zid (zdo hres GB.out (k:=w.heap.size+1+1) (by omega) HL.out);obtain ⟨q0,q1,q2,q3,q4⟩:=zaa (hkeep G2.out hres.w);obtain ⟨qf0,qf1,qf2,qf3,qf4⟩:=zad (hkeep G2.out hres.w);clear hres;unfold zac;go_wp2_with fail;refine bodyPost_ret (v:= .tuple #[.agg #[.slice ga gn gc,.int .i64 R.1.c,.bool R.1.a,.int .i64 R.1.l,.bool R.1.x],.int .i64 R.2]) (by simp [results,Tryz.results97,go_sem,q0,q1,q2,q3,q4]) rfl ?_;exact ⟨_,rfl,HRS.out _ _ _ _ _⟩
theorem zjM (fv:Value) (D:Dk) (n:ByteArray) (w:World) (hv:IsL FL w fv D.f) (hS:Sm D):
 Calls Tryz.prog 99 #[zac fv D,.string n] w (zhd w fv D.f (delete D n)):=by
 obtain ⟨own,hown,hR⟩:∃own:Int,((own=7/\get D.f n=none)\/(own=0/\get D.f n≠none))/\delete D n=change D (without D.f n) own:=by
  unfold delete
  cases hg:get D.f n with
  | none=>exact ⟨7,.inl ⟨rfl,rfl⟩,zc4 D _ _ (by decide)⟩
  | some f=>exact ⟨0,.inr ⟨rfl,by simp⟩,rfl⟩
 rw [hR]
 have HC:=zid fun (fv:Value) (b:Nat) (W:World) (h:IsL FL W fv D.f) (hx:W.cell? ⟨b,0,none⟩=some (.string n))=>
  zcp 120 #[.pointer (some ⟨b,0,none⟩)] fv D (without D.f n) own W h hS.b hS.l0 (by have:=hS.n;omega)
   (fun ho=>⟨by have:(without D.f n).length<=D.f.length:=List.length_filter_le _ _;have:=hS.n;omega,fun f hf=>hS.flb f (zaJ.1 hf).1⟩)
   (enters Tryz.func120 (by kernel_rfl) (by rfl))
   (fun base v W' ho h1 h2 h3=>zhY n D.f base v b W' (by rw [h3.cell (p:=⟨b,0,none⟩) (block_lt_of_cell hx)];exact hx) ho h2 hS.r.2.1 (by have:=hS.n;omega) hS.flb own hown)
 have HV:=zid hv
 obtain ⟨fa,fn,fc,rfl⟩:∃a n c,fv= .slice a n c:=by obtain ⟨a,c,h,_⟩:=hv;exact ⟨a,_,c,h⟩
 have hmf:=made_func;obtain ⟨g0,g1,g2,gb,gs⟩:=zfh w #[.slice fa fn fc,.int .i64 D.c,.bool D.a,.int .i64 D.l,.bool D.x] #[.string n] #[.slice none 0 0,.int .i64 0,.bool false,.int .i64 0,.bool false] 27 9 27;have G1:=zid g1;have G2:=zid g2;have GB:=zid gb;have GS:=zid gs;generalize change D _ own=R at*;clear hv hS hown hR g0 g1 g2 gb gs;unfold zac
 go_enter Tryz.func99,Tryz.ntmps99
 go_wp2_with fail;generalize World.alloc (World.alloc (World.alloc w _) _) _=w0 at G1 G2 GB GS ⊢;have HL:=zid (show w.heap.size+1+1<w0.heap.size by have:=GS.out;omega);refine (HC.out _ _ w0 (HV.out.keep GB.out) (zaE G1.out).1).mono ?_;rintro e w1 ⟨v1,rfl,hres⟩
 obtain ⟨ga,gn,gc,rfl⟩:∃a n c,v1= .slice a n c:=by
  rcases hres.k with ⟨k,_⟩ | k
  · exact ⟨_,_,_,k⟩
  · exact own_slice k
 have HRS:=zid (zdo hres GB.out (k:=w.heap.size+1+1) (by omega) HL.out);obtain ⟨q0,q1,q2,q3,q4⟩:=zaa (hkeep G2.out hres.w);obtain ⟨qf0,qf1,qf2,qf3,qf4⟩:=zad (hkeep G2.out hres.w);clear hres;unfold zac;go_wp2_with fail;refine bodyPost_ret (v:= .tuple #[.agg #[.slice ga gn gc,.int .i64 R.1.c,.bool R.1.a,.int .i64 R.1.l,.bool R.1.x],.int .i64 R.2]) (by simp [results,Tryz.results99,go_sem,q0,q1,q2,q3,q4]) rfl ?_;exact ⟨_,rfl,HRS.out _ _ _ _ _⟩
theorem zjs (fv:Value) (D:Dk) (n m:ByteArray) (w:World) (hv:IsL FL w fv D.f) (hS:Sm D) (hm:m.size<=9223372036854775807):
 Calls Tryz.prog 153 #[zac fv D,.string n,.string m] w (zhd w fv D.f (rename D n m)):=by
 obtain ⟨own,l,hown,hR⟩:∃(own:Int) (l:List Fl),((own=7/\get D.f n=none/\l=[])\/(own=1/\get D.f n≠none/\¬Named m/\l=[])\/(own=0/\∃f,get D.f n=some f/\Named m/\l=withF (without D.f n) ⟨m,f.d,f.s⟩))/\rename D n m=change D l own:=by
  unfold rename
  cases hg:get D.f n with
  | none=>exact ⟨7,[],.inl ⟨rfl,rfl,rfl⟩,rfl⟩
  | some f=>
   by_cases h1:Named m
   · exact ⟨0,_,.inr (.inr ⟨rfl,f,rfl,h1,rfl⟩),by simp only;rw [if_neg (fun h=>h h1)]⟩
   · exact ⟨1,[],.inr (.inl ⟨rfl,by simp,h1,rfl⟩),by simp only;rw [if_pos h1]⟩
 rw [hR]
 have HC:=zid fun (fv:Value) (b b':Nat) (W:World) (h:IsL FL W fv D.f) (hx:W.cell? ⟨b,0,none⟩=some (.string n)) (hx':W.cell? ⟨b',0,none⟩=some (.string m))=>
  zcp 159 #[.pointer (some ⟨b,0,none⟩),.pointer (some ⟨b',0,none⟩)] fv D l own W h hS.b hS.l0 (by have:=hS.n;omega)
   (fun ho=>by
    rcases hown with ⟨h1,_⟩ | ⟨h1,_⟩ | ⟨_,f,hg,hN,rfl⟩
    · omega
    · omega
    · refine ⟨?_,fun x hx=>?_⟩
      · have h1:(without D.f n).length<=D.f.length:=List.length_filter_le _ _
        have h2:=zcS (without D.f n) ⟨m,f.d,f.s⟩
        have:=hS.n;omega
      · rcases zbH.1 hx with h1 | rfl
        · exact hS.flb x (zaJ.1 h1.1).1
        · have:=hS.flb f (get_mem hg).1
          exact ⟨hm,this.2.1,this.2.2⟩)
   (enters Tryz.func159 (by kernel_rfl) (by rfl))
   (fun base v W' ho h1 h2 h3=>by
    have y:W'.cell? ⟨b,0,none⟩=some (.string n):=by rw [h3.cell (p:=⟨b,0,none⟩) (block_lt_of_cell hx)];exact hx
    have y':W'.cell? ⟨b',0,none⟩=some (.string m):=by rw [h3.cell (p:=⟨b',0,none⟩) (block_lt_of_cell hx')];exact hx'
    rcases hown with ⟨rfl,hg,rfl⟩ | ⟨rfl,hg,hN,rfl⟩ | ⟨rfl,f,hg,hN,rfl⟩
    · exact zeV n m D.f base v b b' W' hm y y' ho h2 hS.r.2.1 (by have:=hS.n;omega) hS.flb 7 (.inl ⟨rfl,hg⟩)
    · exact zeV n m D.f base v b b' W' hm y y' ho h2 hS.r.2.1 (by have:=hS.n;omega) hS.flb 1 (.inr ⟨rfl,hg,hN⟩)
    · exact zhI n m D.f base v b b' W' hm y y' ho h2 hS.r.2.1 (by have:=hS.n;omega) hS.flb f hg hN)
 have HV:=zid hv
 obtain ⟨fa,fn,fc,rfl⟩:∃a n c,fv= .slice a n c:=by obtain ⟨a,c,h,_⟩:=hv;exact ⟨a,_,c,h⟩
 have hmf:=made_func;obtain ⟨g0,g1,g2,g3,gb,gs⟩:=boxes4 w #[.slice fa fn fc,.int .i64 D.c,.bool D.a,.int .i64 D.l,.bool D.x] #[.string n] #[.string m] #[.slice none 0 0,.int .i64 0,.bool false,.int .i64 0,.bool false] 27 9 9 27;have G1:=zid g1;have G2:=zid g2;have G3:=zid g3;have GB:=zid gb;have GS:=zid gs;generalize change D _ own=R at*;clear hv hS hown hR g0 g1 g2 g3 gb gs hm;unfold zac
 go_enter Tryz.func153,Tryz.ntmps153
 go_wp2_with fail;generalize World.alloc (World.alloc (World.alloc (World.alloc w _) _) _) _=w0 at G1 G2 G3 GB GS ⊢;have HL:=zid (show w.heap.size+1+1+1<w0.heap.size by have:=GS.out;omega);refine (HC.out _ _ _ w0 (HV.out.keep GB.out) (zaE G1.out).1 (zaE G2.out).1).mono ?_;rintro e w1 ⟨v1,rfl,hres⟩
 obtain ⟨ga,gn,gc,rfl⟩:∃a n c,v1= .slice a n c:=by
  rcases hres.k with ⟨k,_⟩ | k
  · exact ⟨_,_,_,k⟩
  · exact own_slice k
 have HRS:=zid (zdo hres GB.out (k:=w.heap.size+1+1+1) (by omega) HL.out);obtain ⟨q0,q1,q2,q3,q4⟩:=zaa (hkeep G3.out hres.w);obtain ⟨qf0,qf1,qf2,qf3,qf4⟩:=zad (hkeep G3.out hres.w);clear hres;unfold zac;go_wp2_with fail;refine bodyPost_ret (v:= .tuple #[.agg #[.slice ga gn gc,.int .i64 R.1.c,.bool R.1.a,.int .i64 R.1.l,.bool R.1.x],.int .i64 R.2]) (by simp [results,Tryz.results153,go_sem,q0,q1,q2,q3,q4]) rfl ?_;exact ⟨_,rfl,HRS.out _ _ _ _ _⟩
theorem zeO (n:ByteArray) (M:Fn) (caps:Array Value) (w:World):Calls Tryz.prog 122 #[.string n,.func M #[] caps] w fun e w'=>∃p q:Nat,e= .returned (.func (.func 141) #[] #[.pointer (some ⟨p,0,none⟩),.pointer (some ⟨q,0,none⟩)])/\
 w'.cell? ⟨p,0,none⟩=some (.string n)/\w'.cell? ⟨q,0,none⟩=some (.func M #[] caps)/\Below w.heap.size w w':=by
 have hmf:=made_func;obtain ⟨g0,g1,gb,gs⟩:=zay w #[.string n] #[.func M #[] caps] 9 159
 go_enter Tryz.func122,Tryz.ntmps122
 go_wp2_with fail;go_ret;exact ⟨_,_,rfl,(zaE g0).1,(zaE g1).1,gb⟩
def one (D:Dk) (n:ByteArray) (g:Fl->Fl) (er:Fl->Int):Dk×Int:=match get D.f n with | none=>change D [] 7 | some f=>change D (withF D.f (g f)) (er f)
theorem zd8 (fv:Value) (D:Dk) (n:ByteArray) (g:Fl->Fl) (er:Fl->Int) (M:Nat) (caps:Array Value) (b1 b2:Nat) (w:World) (hv:IsL FL w fv D.f) (hS:Sm D)
 (hg:∀f,get D.f n=some f->(g f).n=n/\(er f=0->FlB (g f))) (EN:∀args w,(callFunc M args).run Tryz.prog w= .ok (.enter M args) w)
 (IN:∀f W,get D.f n=some f->Below w.heap.size w W->Calls Tryz.prog M (#[.agg #[.string f.n,.string f.d,.int .i64 f.s]]++caps) W (zdL W (g f) (er f)))
 (h1:w.cell? ⟨b1,0,none⟩=some (.string n)) (h2:w.cell? ⟨b2,0,none⟩=some (.func (.func M) #[] caps)):
 Calls Tryz.prog 115 #[.agg #[fv,.int .i64 D.c,.bool D.a,.int .i64 D.l,.bool D.x],.func (.func 141) #[] #[.pointer (some ⟨b1,0,none⟩),.pointer (some ⟨b2,0,none⟩)]] w (zhd w fv D.f (one D n g er)):=by
 unfold one
 have key:∀W,Below w.heap.size w W->W.cell? ⟨b1,0,none⟩=some (.string n)/\W.cell? ⟨b2,0,none⟩=some (.func (.func M) #[] caps):=fun W b=>
  ⟨by rw [b.cell (p:=⟨b1,0,none⟩) (block_lt_of_cell h1)];exact h1,by rw [b.cell (p:=⟨b2,0,none⟩) (block_lt_of_cell h2)];exact h2⟩
 cases hget:get D.f n with
 | none=>
  refine zcp _ _ fv D [] 7 w hv hS.b hS.l0 (by have:=hS.n;omega) (fun h=>by omega) (enters Tryz.func141 (by kernel_rfl) (by rfl)) (fun base v W ho k1 k2 k3=>?_);exact ziZ n D.f base v b1 b2 W (key W k3).1 ho k2 hS.r.2.1 (by have:=hS.n;omega) hS.flb hget
 | some f=>
  refine zcp _ _ fv D (withF D.f (g f)) (er f) w hv hS.b hS.l0 (by have:=hS.n;omega) (fun h=>⟨by have:=zcS D.f (g f);have:=hS.n;omega,fun x hx=>?_⟩) (enters Tryz.func141 (by kernel_rfl) (by rfl)) (fun base v W ho k1 k2 k3=>?_)
  · rcases zbH.1 hx with k | rfl
    · exact hS.flb x k.1
    · exact (hg f hget).2 h
  · exact zhe n D.f base v b1 b2 W (key W k3).1 ho k2 hS.r.2.1 (by have:=hS.n;omega) hS.flb f (g f) (er f) M caps hget (hg f hget).1 EN (key W k3).2 (fun W' hb=>IN f W' hget (k3.trans (hb.mono k3.size)))
end Dsk
end Go.Proofs.YtgmppfpllogdcaaGreat

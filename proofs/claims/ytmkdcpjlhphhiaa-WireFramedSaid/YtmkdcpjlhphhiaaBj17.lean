/-
  Parts of what the laws of this seat stand on:WirRget,WirLd,Law16T.
-/
import Derived.Test.YtmkdcpjlhphhiaaBj1
import Derived.Deep.RegionHeld3
import Derived.Laws.Tables
import Derived.Test.YtmkdcpjlhphhiaaBj13
import Derived.Test.YtmkdcpjlhphhiaaBj14
import Derived.Test.YtmkdcpjlhphhiaaBj16
import Derived.Test.YtmkdcpjlhphhiaaBj5
import Derived.Test.YtmkdcpjlhphhiaaBj8
set_option maxRecDepth 100000
set_option maxHeartbeats 6400000
namespace Go.Proofs.Ytmkdcpjlhphhiaa
namespace Wr
open Go.RowKit Qm Wq Mfs
theorem good_get {s:List UInt8} {j:Nat} {b:List UInt8} {m:Ms} {ok:Bool} (hg:Good b m ok) (h:Fr.nx s=(0,j,b)):
 (ok=true->j=s.length->Ok m->getW s=(m,0))/\(¬(ok=true/\j=s.length/\Ok m)->getW s=(Wq.zero,3)):=by
 refine ⟨fun h1 h2 h3=>?_,fun hn=>?_⟩
 · have h4:=hg.1 h1 (kinds h3)
   have:=zdC (off:=offA) h (by rw [h4]) (by rw [h4]) h2 (by rw [h4];exact h3)
   rwa [h4] at this
 · refine zep (off:=offA) (fun _ _ h0 h1 h2=>zfy h0 h1 h2) h ?_
   rcases hb:(msgR offA b false).2.2 with _ | _
   · by_cases h5:(msgR offA b false).2.1=[]
     · by_cases h6:j=s.length
       · refine .inr (.inr (.inr fun h7=>hn ?_))
         obtain ⟨h8,h9⟩:=hg.2 (msgR offA b false).1 (by have h3:=tup3 hb;rw [h5] at h3;exact h3) (kinds h7)
         exact ⟨h8,h6,by rw [h9];exact h7⟩
       · exact .inr (.inr (.inl h6))
     · exact .inr (.inl h5)
   · exact .inl rfl
theorem zfg (s:ByteArray) (er:Nat) (w:World) (hs:s.size<=140737488351232) (he:Fr.nx s.data.toList=(er,0,[])) (h3:er=2\/er=3\/er=4):
 Calls Try.prog 12 #[.string s] w (zap w (getW s.data.toList)):=by
 rw [zb6 he (by omega)];have C:=fun W:World=>zcC s 0 W hs;rw [show (0:Int)=((0:Nat):Int) from rfl,zbQ,zaD (k:=0) he (by omega)] at C;replace C:=zid C;have HA:=zid ((Below.refl w.heap.size w).alloc (Nat.le_refl _) (.cells #[.int .i64 0,.int .i64 0,.int .i64 0,.int .i64 0,.int .i64 0,.int .i64 0,.int .i64 0,.int .i64 0,.int .i64 0,.int .i64 0,.int .i64 0,.int .i64 0,.int .u32 0,.string ⟨#[]⟩,.slice none 0 0] 25));have G0:=zid (heap_alloc_new w (.cells #[.int .i64 0,.int .i64 0,.int .i64 0,.int .i64 0,.int .i64 0,.int .i64 0,.int .i64 0,.int .i64 0,.int .i64 0,.int .i64 0,.int .i64 0,.int .i64 0,.int .u32 0,.string ⟨#[]⟩,.slice none 0 0] 25));clear he
 rcases h3 with rfl | rfl | rfl
 all_goals
  go_enter Try.func12,Try.ntmps12
  go_wp2_with fail;refine (C.out _).mono ?_;rintro e w1 ⟨rfl,b1⟩;have G1:=zid ((b1.block w.heap.size (Array.getElem?_eq_some_iff.1 G0.out).1).trans G0.out);have B1:=zid (HA.out.trans (b1.mono HA.out.size));obtain ⟨z0,z1,z2,z3,z4,z5,z6,z7,z8,z9,z10,z11,z12,z13,z14⟩:=zaa G1.out;have fr:=zac G1.out;clear b1;go_wp2_with fail;refine bodyPost_ret (v:= .tuple #[.agg #[.int .i64 0,.int .i64 0,.int .i64 0,.int .i64 0,.int .i64 0,.int .i64 0,.int .i64 0,.int .i64 0,.int .i64 0,.int .i64 0,.int .i64 0,.int .i64 0,.int .u32 0,.string ⟨#[]⟩,.slice none 0 0],.int .i64 _]) (by simp [results,Try.results12,go_sem,z0,z1,z2,z3,z4,z5,z6,z7,z8,z9,z10,z11,z12,z13,z14];rfl) rfl ?_;exact zap.mk0 _ (zbK B1.out (Nat.le_refl _) _ _ _ _ _ _ _ _ _ _ _ _ _ _ _)
theorem zeK (s:ByteArray) (j:Nat) (b:List UInt8) (w:World) (hs:s.size<=140737488351232) (he:Fr.nx s.data.toList=(0,j,b)) (hbm:Fr.May b.length):
 Calls Try.prog 12 #[.string s] w (zap w (getW s.data.toList)):=by
 have C:=fun W:World=>zcC s 0 W hs;rw [show (0:Int)=((0:Nat):Int) from rfl,zbQ,zbD (k:=0) he,Nat.zero_add] at C;replace C:=zid C;have HA:=zid ((Below.refl w.heap.size w).alloc (Nat.le_refl _) (.cells #[.int .i64 0,.int .i64 0,.int .i64 0,.int .i64 0,.int .i64 0,.int .i64 0,.int .i64 0,.int .i64 0,.int .i64 0,.int .i64 0,.int .i64 0,.int .i64 0,.int .u32 0,.string ⟨#[]⟩,.slice none 0 0] 25));have G0:=zid (heap_alloc_new w (.cells #[.int .i64 0,.int .i64 0,.int .i64 0,.int .i64 0,.int .i64 0,.int .i64 0,.int .i64 0,.int .i64 0,.int .i64 0,.int .i64 0,.int .i64 0,.int .i64 0,.int .u32 0,.string ⟨#[]⟩,.slice none 0 0] 25));obtain ⟨BS,hBS⟩:∃BS:ByteArray,(⟨b.toArray⟩:ByteArray)=BS:=⟨_,rfl⟩;have BD:=zid fun (W:World)=>body_any BS W (by rw [<-hBS,zai];have:=hbm.2;omega);have HE:=zid (show Fr.nx s.data.toList=(0,j,BS.data.toList) by rw [he, <-hBS]);rw [hBS] at C;clear he hbm hBS;have HZ:=zid (show s.data.toList.length=s.size from rfl)
 go_enter Try.func12,Try.ntmps12
 go_wp2_with fail;refine (C.out _).mono ?_;rintro e w1 ⟨rfl,b1⟩;have G1:=zid ((b1.block w.heap.size (Array.getElem?_eq_some_iff.1 G0.out).1).trans G0.out);have B1:=zid (HA.out.trans (b1.mono HA.out.size));clear b1 G0 HA;go_wp2_with fail;refine (BD.out _).mono ?_;rintro e w3 ⟨sa,sn,sc,m,ok,rfl,hi3,ho3,hB,hg,b3⟩;have HGET:=zid (good_get hg HE.out);have B3:=zid (B1.out.trans (b3.mono B1.out.size));have HI3:=zid hi3;have HMB:=zid hB;have hlt:w.heap.size<w1.heap.size:=(Array.getElem?_eq_some_iff.1 G1.out).1;have HOW:=zid (show ∀q,(Value.slice sa sn sc).ownBlock=some q->w.heap.size<q from fun q hq=>by have:=ho3 q hq;omega);have G3:=zid ((b3.block w.heap.size hlt).trans G1.out);clear hi3 ho3 b3 hg hB hlt G1 B1;unfold zag;have A4:=zid ((Below.refl w3.heap.size w3).alloc (Nat.le_refl _) (.cells #[.int .i64 m.k,.int .i64 m.f,.int .i64 m.t,.int .i64 m.i,.int .i64 m.p,.int .i64 m.q,.int .i64 m.a,.int .i64 m.wd,.int .i64 m.h,.int .i64 m.wt,.int .i64 m.x,.int .i64 m.z,.int .u32 m.s,.string m.d,.slice sa sn sc] 25));have G4:=zid (heap_alloc_new w3 (.cells #[.int .i64 m.k,.int .i64 m.f,.int .i64 m.t,.int .i64 m.i,.int .i64 m.p,.int .i64 m.q,.int .i64 m.a,.int .i64 m.wd,.int .i64 m.h,.int .i64 m.wt,.int .i64 m.x,.int .i64 m.z,.int .u32 m.s,.string m.d,.slice sa sn sc] 25));have RS4:=zid ((A4.out.block w.heap.size (Array.getElem?_eq_some_iff.1 G3.out).1).trans G3.out);have HI4:=zid (zab HI3.out A4.out);have B4:=zid (B3.out.trans (A4.out.mono B3.out.size));obtain ⟨r0,r1,r2,r3,r4,r5,r6,r7,r8,r9,r10,r11,r12,r13,r14⟩:=zaa G4.out;obtain ⟨z0,z1,z2,z3,z4,z5,z6,z7,z8,z9,z10,z11,z12,z13,z14⟩:=zaa RS4.out;have fr:=zac RS4.out
 cases ok with
 | false=>
  have HF:=zid (HGET.out.2 (fun h=>by cases h.1));go_wp2_with fail;refine bodyPost_ret (v:= .tuple #[.agg #[.int .i64 0,.int .i64 0,.int .i64 0,.int .i64 0,.int .i64 0,.int .i64 0,.int .i64 0,.int .i64 0,.int .i64 0,.int .i64 0,.int .i64 0,.int .i64 0,.int .u32 0,.string ⟨#[]⟩,.slice none 0 0],.int .i64 3]) (by simp [results,Try.results12,go_sem,z0,z1,z2,z3,z4,z5,z6,z7,z8,z9,z10,z11,z12,z13,z14]) rfl ?_;rw [HF.out];exact zap.mk0 3 (zbK B4.out (Nat.le_refl _) _ _ _ _ _ _ _ _ _ _ _ _ _ _ _)
 | true=>
  by_cases hj:j=s.size
  case neg=>
   have HF:=zid (HGET.out.2 (fun h=>hj (by rw [h.2.1,HZ.out])))
   have hj2:((j:Int) != (s.size:Int))=true:=by simp;omega
   clear hj;go_wp2_with fail;refine bodyPost_ret (v:= .tuple #[.agg #[.int .i64 0,.int .i64 0,.int .i64 0,.int .i64 0,.int .i64 0,.int .i64 0,.int .i64 0,.int .i64 0,.int .i64 0,.int .i64 0,.int .i64 0,.int .i64 0,.int .u32 0,.string ⟨#[]⟩,.slice none 0 0],.int .i64 3]) (by simp [results,Try.results12,go_sem,z0,z1,z2,z3,z4,z5,z6,z7,z8,z9,z10,z11,z12,z13,z14]) rfl ?_;rw [HF.out];exact zap.mk0 3 (zbK B4.out (Nat.le_refl _) _ _ _ _ _ _ _ _ _ _ _ _ _ _ _)
  have hj2:((j:Int) != (s.size:Int))=false:=by simp;omega
  by_cases hok:Ok m
  case neg=>
   have HF:=zid (HGET.out.2 (fun h=>hok h.2.2));have RR:=zaH sa sn sc m false _ HI4.out HMB.out ⟨(fun h=>by cases h),fun hk=>absurd hk hok⟩;unfold zag at RR;replace RR:=zid RR;clear hok hj;go_wp2_with fail;refine RR.out.mono ?_;rintro e w5 ⟨rfl,b5⟩;have RS5:=zid ((b5.block w.heap.size (Array.getElem?_eq_some_iff.1 RS4.out).1).trans RS4.out);have B5:=zid (B4.out.trans (b5.mono B4.out.size));clear b5 z0 z1 z2 z3 z4 z5 z6 z7 z8 z9 z10 z11 z12 z13 z14 fr r0 r1 r2 r3 r4 r5 r6 r7 r8 r9 r10 r11 r12 r13 r14;obtain ⟨z0,z1,z2,z3,z4,z5,z6,z7,z8,z9,z10,z11,z12,z13,z14⟩:=zaa RS5.out;have fr:=zac RS5.out;go_wp2_with fail;refine bodyPost_ret (v:= .tuple #[.agg #[.int .i64 0,.int .i64 0,.int .i64 0,.int .i64 0,.int .i64 0,.int .i64 0,.int .i64 0,.int .i64 0,.int .i64 0,.int .i64 0,.int .i64 0,.int .i64 0,.int .u32 0,.string ⟨#[]⟩,.slice none 0 0],.int .i64 3]) (by simp [results,Try.results12,go_sem,z0,z1,z2,z3,z4,z5,z6,z7,z8,z9,z10,z11,z12,z13,z14]) rfl ?_;rw [HF.out];exact zap.mk0 3 (zbK B5.out (Nat.le_refl _) _ _ _ _ _ _ _ _ _ _ _ _ _ _ _)
  · have HF:=zid (HGET.out.1 rfl (by rw [HZ.out];exact hj) hok)
    have RR:=zaH sa sn sc m true _ HI4.out HMB.out ⟨fun _=>hok,fun _=>rfl⟩
    unfold zag at RR;replace RR:=zid RR;clear hok hj;go_wp2_with fail;refine RR.out.mono ?_;rintro e w5 ⟨rfl,b5⟩;have RS5:=zid ((b5.block w.heap.size (Array.getElem?_eq_some_iff.1 RS4.out).1).trans RS4.out);have G5:=zid ((b5.block w3.heap.size (Array.getElem?_eq_some_iff.1 G4.out).1).trans G4.out);have B5:=zid (B4.out.trans (b5.mono B4.out.size));have HI5:=zid (zab HI4.out b5)
    have hwne:w.heap.size≠w3.heap.size:=by have:=(Array.getElem?_eq_some_iff.1 G3.out).1;omega
    clear b5 z0 z1 z2 z3 z4 z5 z6 z7 z8 z9 z10 z11 z12 z13 z14 fr r0 r1 r2 r3 r4 r5 r6 r7 r8 r9 r10 r11 r12 r13 r14;obtain ⟨z0,z1,z2,z3,z4,z5,z6,z7,z8,z9,z10,z11,z12,z13,z14⟩:=zaa RS5.out;obtain ⟨r0,r1,r2,r3,r4,r5,r6,r7,r8,r9,r10,r11,r12,r13,r14⟩:=zaa G5.out;have fr:=zac RS5.out;go_wp2_with fail;refine bodyPost_ret (v:= .tuple #[.agg #[.int .i64 m.k,.int .i64 m.f,.int .i64 m.t,.int .i64 m.i,.int .i64 m.p,.int .i64 m.q,.int .i64 m.a,.int .i64 m.wd,.int .i64 m.h,.int .i64 m.wt,.int .i64 m.x,.int .i64 m.z,.int .u32 m.s,.string m.d,.slice sa sn sc],.int .i64 0]) (by simp [results,Try.results12,go_sem,z0,z1,z2,z3,z4,z5,z6,z7,z8,z9,z10,z11,z12,z13,z14]) rfl ?_;rw [HF.out];exact ⟨sa,sn,sc,rfl,zaT HI5.out (fun q hq=>by have:=HOW.out q hq;omega) (zbS w5 w.heap.size _ _ _ _ _ _ _ _ _ _ _ _ _ _ _),zbK B5.out (Nat.le_refl _) _ _ _ _ _ _ _ _ _ _ _ _ _ _ _⟩
theorem zdk (s:ByteArray) (w:World) (hs:s.size<=140737488351232):
 Calls Try.prog 12 #[.string s] w (zap w (getW s.data.toList)):=by
 rcases Fr.nx_cases s.data.toList with ⟨er,h,he⟩ | ⟨j,b,h,_,hj,hb,_⟩
 · exact zfg s er w hs h he
 · exact zeK s j b w hs h hb
theorem zc1 {cs:Array Value} (h:cs.size=15):(Try.prog.info? 25).map (·.size)=some cs.size:=by
 rw [h]
 kernel_rfl
theorem za1 {o:Oper} {a:Act} {w:World} {x:Operand} {g:Nat} {cs:Array Value} (ho:o.op= .load 25 x) (hx:a.eval x= .pointer (some ⟨g,0,none⟩)) (hg:w.heap[g]?=some (.cells cs 25 (0,0))) (hs:cs.size=15):
 (execOp a.eval o).run Try.prog w= .ok (.value (.agg cs)) w:=by
 unfold execOp;simp only [ho,hx,Instr.loadAt,Instr.sureAddr,Sem.run_bind,Sem.run_pure,Result.andThen_ok,run_loadVar_row w g _ _ cs _ _ hg Try.underlying25 rfl (zc1 hs)]
theorem zas {ops:Array Oper} {rest:List Oper} {o:Oper} {a:Act} {w:World} {Q:Exit->Act->World->Prop} (x:Operand) (g:Nat) {cs:Array Value} (hw:Region.wanted o (yielded ops a.tmps)=true) (ho:o.op= .load 25 x)
 (hx:a.eval x= .pointer (some ⟨g,0,none⟩)) (hg:w.heap[g]?=some (.cells cs 25 (0,0))) (hs:cs.size=15)
 (h:wpList Try.prog ops Q rest (a.put o.dst (.agg cs)) w):wpList Try.prog ops Q (o::rest) a w:=by
 unfold wpList;rw [if_pos hw];exact .inl (wp_load_row _ x ho g hx _ cs _ _ hg Try.underlying25 rfl (zc1 hs) h)
theorem zdJ (w:World) (old cs:Array Value) (t:TypeId):(w.alloc (.cells old t)).setRow w.heap.size cs=w.alloc (.cells cs t):=by
 unfold World.setRow World.alloc;dsimp only
 congr 1
 apply Array.ext
 · simp
 · intro i h1 h2
   rw [Array.getElem_modify]
   by_cases hi:w.heap.size=i
   · subst hi
     rw [if_pos rfl]
     simp
   · rw [if_neg hi]
     have hlt:i<w.heap.size:=by
      simp at h2;omega
     rw [Array.getElem_push_lt hlt,Array.getElem_push_lt hlt]
theorem za9 {ops:Array Oper} {rest:List Oper} {o:Oper} {a:Act} {w:World} {Q:Exit->Act->World->Prop} (x y:Operand) {old cs:Array Value} (hgd:o.guard=none) (ho:o.op= .store 25 x y)
 (hx:a.eval x= .pointer (some ⟨w.heap.size,0,none⟩)) (hy:a.eval y= .agg cs) (hs:old.size=15) (hc:cs.size=15) (h1:cs.all (·.oneCell')=true)
 (h:wpList Try.prog ops Q rest (a.put o.dst undef) (w.alloc (.cells cs 25))):wpList Try.prog ops Q (o::rest) a (w.alloc (.cells old 25)):=by
 refine wpList_store_row hgd _ x y ho w.heap.size cs hx hy _ old (heap_alloc_new w _) (zc1 hc) (by rw [hs,hc]) h1 ?_;rw [zdJ];exact h
theorem zbm (m:Ms) (a:Option Addr) (n c:Nat):(#[.int .i64 m.k,.int .i64 m.f,.int .i64 m.t,.int .i64 m.i,.int .i64 m.p,.int .i64 m.q,.int .i64 m.a,.int .i64 m.wd,.int .i64 m.h,.int .i64 m.wt,.int .i64 m.x,.int .i64 m.z,.int .u32 m.s,.string m.d,.slice a n c]:Array Value).all (·.oneCell')=true:=by
 simp [Value.oneCell']
theorem zcb (va:Option Addr) (vn vc:Nat) (m:Ms) (s:ByteArray) (w:World) (hv:zae w (.slice va vn vc) m.l) (hfar:zaJ m=false\/(zaJ m=true/\2000<s.size)):
 Calls Try.prog 3 #[zag (.slice va vn vc) m,.string s] w fun e w'=>e= .returned (.bool true)/\Below w.heap.size w w':=by
 have HA:=zid ((Below.refl w.heap.size w).alloc (Nat.le_refl _) (.cells #[.int .i64 m.k,.int .i64 m.f,.int .i64 m.t,.int .i64 m.i,.int .i64 m.p,.int .i64 m.q,.int .i64 m.a,.int .i64 m.wd,.int .i64 m.h,.int .i64 m.wt,.int .i64 m.x,.int .i64 m.z,.int .u32 m.s,.string m.d,.slice va vn vc] 25));have SMA:=zat va vn vc m _ (zab hv HA.out);have g0:=heap_alloc_new w (.cells #[.int .i64 m.k,.int .i64 m.f,.int .i64 m.t,.int .i64 m.i,.int .i64 m.p,.int .i64 m.q,.int .i64 m.a,.int .i64 m.wd,.int .i64 m.h,.int .i64 m.wt,.int .i64 m.x,.int .i64 m.z,.int .u32 m.s,.string m.d,.slice va vn vc] 25);have AW:=zid zbb;unfold zag at*
 rcases hfar with hf | ⟨hf,hg⟩
 · rw [hf] at SMA
   replace SMA:=zid SMA
   clear hf hv
   go_enter Try.func3,Try.ntmps3
   go_wp2_with (refine zas _ _ rfl rfl rfl (by assumption) rfl ?_)
   refine SMA.out.mono ?_;rintro e w1 ⟨rfl,b1⟩;have B1:=zid (HA.out.trans (b1.mono HA.out.size));clear b1;go_wp2_with fail;refine (AW.out _).mono ?_;rintro e w2 ⟨rfl,b2⟩;have B2:=zid (B1.out.trans (b2.mono B1.out.size));clear b2;go_wp2_with fail;go_ret;exact ⟨rfl,B2.out⟩
 · rw [hf] at SMA
   replace SMA:=zid SMA
   have hg:(2000:Int)<(s.size:Int):=by omega
   clear hf hv
   go_enter Try.func3,Try.ntmps3
   go_wp2_with (refine zas _ _ rfl rfl rfl (by assumption) rfl ?_)
   refine SMA.out.mono ?_;rintro e w1 ⟨rfl,b1⟩;have B1:=zid (HA.out.trans (b1.mono HA.out.size));clear b1;go_wp2_with fail;refine (AW.out _).mono ?_;rintro e w2 ⟨rfl,b2⟩;have B2:=zid (B1.out.trans (b2.mono B1.out.size));clear b2;go_wp2_with fail;go_ret;exact ⟨rfl,B2.out⟩
theorem zdf (va:Option Addr) (vn vc:Nat) (m:Ms) (s:ByteArray) (w:World) (hv:zae w (.slice va vn vc) m.l) (hB:MsB m) (hn:zaJ m=true) (hs:s.size<=2000):
 Calls Try.prog 3 #[zag (.slice va vn vc) m,.string s] w fun e w'=>e= .returned (.bool true)/\Below w.heap.size w w':=by
 have HA:=zid ((Below.refl w.heap.size w).alloc (Nat.le_refl _) (.cells #[.int .i64 m.k,.int .i64 m.f,.int .i64 m.t,.int .i64 m.i,.int .i64 m.p,.int .i64 m.q,.int .i64 m.a,.int .i64 m.wd,.int .i64 m.h,.int .i64 m.wt,.int .i64 m.x,.int .i64 m.z,.int .u32 m.s,.string m.d,.slice va vn vc] 25));have G0:=zid (heap_alloc_new w (.cells #[.int .i64 m.k,.int .i64 m.f,.int .i64 m.t,.int .i64 m.i,.int .i64 m.p,.int .i64 m.q,.int .i64 m.a,.int .i64 m.wd,.int .i64 m.h,.int .i64 m.wt,.int .i64 m.x,.int .i64 m.z,.int .u32 m.s,.string m.d,.slice va vn vc] 25));have SMA:=zat va vn vc m _ (zab hv HA.out);rw [hn] at SMA;have AW:=zid zbb
 obtain ⟨b,hb⟩:∃b:Bool,b=true↔Wq.Ok m:=by
  by_cases h:Wq.Ok m
  · exact ⟨true,fun _=>h,fun _=>rfl⟩
  · exact ⟨false,(fun h=>by cases h),fun h2=>absurd h2 h⟩
 have PT:=fun (W:World) (hb:Below w.heap.size w W)=>zb1 va vn vc m W (zab hv hb) hB;have RP:=fun (W:World) (hb:Below w.heap.size w W)=>zff va vn vc m W (zab hv hb) hB;have RT:=fun (W:World) (hB':Below w.heap.size w W)=>zaK va vn vc m b W (zab hv hB') hB hb;have RR:=fun (W:World) (hB':Below w.heap.size w W)=>zaH va vn vc m b W (zab hv hB') hB hb;have GT:=fun W:World=>zbp s W (by omega);have RG:=fun W:World=>zdk s W (by omega);generalize getW s.data.toList=R at GT RG;obtain ⟨g,er⟩:=R;unfold zag zao at PT RP;unfold zag at RT RR SMA;obtain ⟨A,hA⟩:∃A:ByteArray,(⟨(putW m).1.toArray⟩:ByteArray)=A:=⟨_,rfl⟩;obtain ⟨pe,hpe⟩:∃pe:Int,(putW m).2=pe:=⟨_,rfl⟩;rw [hA,hpe] at PT RP;replace PT:=zid PT;replace RP:=zid RP;replace RT:=zid RT;replace RR:=zid RR;replace GT:=zid GT;replace RG:=zid RG;replace SMA:=zid SMA
 have hg:¬(2000:Int)<(s.size:Int):=by omega
 have g0:=G0.out;clear hv hB hb hn hs hA hpe;unfold zag
 go_enter Try.func3,Try.ntmps3
 go_wp2_with (refine zas _ _ rfl rfl rfl (by assumption) rfl ?_)
 refine SMA.out.mono ?_;rintro e w01 ⟨rfl,b01⟩;have B01:=zid (HA.out.trans (b01.mono HA.out.size));have G01:=zid ((b01.block w.heap.size (Array.getElem?_eq_some_iff.1 G0.out).1).trans G0.out);clear b01 G0 HA g0;have g01:=G01.out
 go_wp2_with (refine zas _ _ rfl rfl rfl (by assumption) rfl ?_)
 refine (PT.out _ B01.out).mono ?_;rintro e w1 ⟨rfl,b1⟩;have B1:=zid (B01.out.trans (b1.mono B01.out.size));have G1:=zid ((b1.block w.heap.size (Array.getElem?_eq_some_iff.1 G01.out).1).trans G01.out);clear b1 G01 B01 g01;have g1:=G1.out
 go_wp2_with (refine zas _ _ rfl rfl rfl (by assumption) rfl ?_)
 refine (RP.out _ B1.out).mono ?_;rintro e w2 ⟨rfl,b2⟩;have B2:=zid (B1.out.trans (b2.mono B1.out.size));have G2:=zid ((b2.block w.heap.size (Array.getElem?_eq_some_iff.1 G1.out).1).trans G1.out);clear b2 G1 B1 g1;go_wp2_with fail;refine (GT.out _).mono ?_;rintro e w3 ⟨xa,xn,xc,rfl,hv3,b3⟩;have B3:=zid (B2.out.trans (b3.mono B2.out.size));have G3:=zid ((b3.block w.heap.size (Array.getElem?_eq_some_iff.1 G2.out).1).trans G2.out);have a4:=(Below.refl w3.heap.size w3).alloc (Nat.le_refl _) (.cells #[.int .i64 g.k,.int .i64 g.f,.int .i64 g.t,.int .i64 g.i,.int .i64 g.p,.int .i64 g.q,.int .i64 g.a,.int .i64 g.wd,.int .i64 g.h,.int .i64 g.wt,.int .i64 g.x,.int .i64 g.z,.int .u32 g.s,.string g.d,.slice xa xn xc] 25);have B4:=zid (B3.out.trans (a4.mono B3.out.size));have G4:=zid ((a4.block w.heap.size (Array.getElem?_eq_some_iff.1 G3.out).1).trans G3.out);have X4:=zid (heap_alloc_new w3 (.cells #[.int .i64 g.k,.int .i64 g.f,.int .i64 g.t,.int .i64 g.i,.int .i64 g.p,.int .i64 g.q,.int .i64 g.a,.int .i64 g.wd,.int .i64 g.h,.int .i64 g.wt,.int .i64 g.x,.int .i64 g.z,.int .u32 g.s,.string g.d,.slice xa xn xc] 25));have HX4:=zid (zab hv3 a4);clear a4 hv3 b3 B2 G2 B3 G3;unfold zag;dsimp only
 go_wp2_with (refine za9 _ _ rfl rfl rfl rfl rfl rfl (zbm _ _ _ _) ?_)
 obtain ⟨tx,htx⟩:∃tx,w3.heap.size=tx:=⟨_,rfl⟩;rw [htx] at X4 ⊢;generalize w3.alloc (.cells #[.int .i64 g.k,.int .i64 g.f,.int .i64 g.t,.int .i64 g.i,.int .i64 g.p,.int .i64 g.q,.int .i64 g.a,.int .i64 g.wd,.int .i64 g.h,.int .i64 g.wt,.int .i64 g.x,.int .i64 g.z,.int .u32 g.s,.string g.d,.slice xa xn xc] 25)=w4 at*;clear htx;refine (RG.out _).mono ?_;rintro e w5 ⟨ya,yn,yc,rfl,hv5,b5⟩;have B5:=zid (B4.out.trans (b5.mono B4.out.size));have G5:=zid ((b5.block w.heap.size (Array.getElem?_eq_some_iff.1 G4.out).1).trans G4.out);have X5:=zid ((b5.block tx (Array.getElem?_eq_some_iff.1 X4.out).1).trans X4.out);have HX5:=zid (zab HX4.out b5);have a6:=(Below.refl w5.heap.size w5).alloc (Nat.le_refl _) (.cells #[.int .i64 g.k,.int .i64 g.f,.int .i64 g.t,.int .i64 g.i,.int .i64 g.p,.int .i64 g.q,.int .i64 g.a,.int .i64 g.wd,.int .i64 g.h,.int .i64 g.wt,.int .i64 g.x,.int .i64 g.z,.int .u32 g.s,.string g.d,.slice ya yn yc] 25);have B6:=zid (B5.out.trans (a6.mono B5.out.size));have G6:=zid ((a6.block w.heap.size (Array.getElem?_eq_some_iff.1 G5.out).1).trans G5.out);have X6:=zid ((a6.block tx (Array.getElem?_eq_some_iff.1 X5.out).1).trans X5.out);have Y6:=zid (heap_alloc_new w5 (.cells #[.int .i64 g.k,.int .i64 g.f,.int .i64 g.t,.int .i64 g.i,.int .i64 g.p,.int .i64 g.q,.int .i64 g.a,.int .i64 g.wd,.int .i64 g.h,.int .i64 g.wt,.int .i64 g.x,.int .i64 g.z,.int .u32 g.s,.string g.d,.slice ya yn yc] 25));have HX6:=zid (zab HX5.out a6);have HY6:=zid (zab hv5 a6);clear a6 hv5 b5 B4 G4 X4 HX4 B5 G5 X5 HX5;unfold zag;dsimp only
 go_wp2_with (refine za9 _ _ rfl rfl rfl rfl rfl rfl (zbm _ _ _ _) ?_)
 obtain ⟨ty,hty⟩:∃ty,w5.heap.size=ty:=⟨_,rfl⟩;rw [hty] at Y6 ⊢;generalize w5.alloc (.cells #[.int .i64 g.k,.int .i64 g.f,.int .i64 g.t,.int .i64 g.i,.int .i64 g.p,.int .i64 g.q,.int .i64 g.a,.int .i64 g.wd,.int .i64 g.h,.int .i64 g.wt,.int .i64 g.x,.int .i64 g.z,.int .u32 g.s,.string g.d,.slice ya yn yc] 25)=w6 at*;clear hty;have l0:=(Array.getElem?_eq_some_iff.1 G6.out).1;have l1:=(Array.getElem?_eq_some_iff.1 X6.out).1;have l2:=(Array.getElem?_eq_some_iff.1 Y6.out).1;have SM:=fun (W:World) (h:Below w6.heap.size w6 W)=>zaL xa xn xc ya yn yc g g true W (zab HX6.out h) (zab HY6.out h) ⟨fun _=>rfl,fun _=>rfl⟩;have RT1:=zid fun (W:World) (h:Below w6.heap.size w6 W)=>RT.out W (B6.out.trans (h.mono B6.out.size));have RR1:=zid fun (W:World) (h:Below w6.heap.size w6 W)=>RR.out W (B6.out.trans (h.mono B6.out.size));unfold zag at SM;replace SM:=zid SM;clear RT RR PT RP GT RG HX6 HY6;have h0:(fun W=>Below w6.heap.size w6 W) w6.drew:=(Below.refl _ _).drew;refine zar (by kernel_rfl) (fun W=>Below w6.heap.size w6 W) 29 rfl #[false,false,false,false,false,false,false,false,false,false,false,false,false,false,false,false,false,false,false,false,false,false,false,false,false,false,false,false,false] rfl ?_;refine wpAnyH_ready (rs:=[0]) (by kernel_rfl) (by simp) (AllReadyH.cons rfl (fun K hK=>?_) AllReadyH.nil);replace hK:=zid hK
 go_simp
 refine (AW.out _).mono ?_;rintro e w16 ⟨rfl,b16⟩;have h1:=h0.trans (b16.mono h0.size);clear b16;dsimp only;refine hK.out _ _ h1 (fun _=>?_);clear hK K h0;simp only [List.setIfInBounds_toArray,List.set_cons_zero];refine wpAnyH_take (i:=1) (v:= .bool true) rfl (by kernel_rfl) (by kernel_rfl) (by kernel_rfl) (fun _ _ _ h=>h) (Or.inl ⟨by kernel_rfl,fun W' hS=>?_⟩) h1 ?_
 · go_simp
 simp only [Act.put,List.setIfInBounds_toArray,List.set_cons_zero,List.set_cons_succ,List.getElem_toArray,List.getElem_cons_succ,List.getElem_cons_zero];refine wpAnyH_take (i:=2) (v:= .agg #[.int .i64 m.k,.int .i64 m.f,.int .i64 m.t,.int .i64 m.i,.int .i64 m.p,.int .i64 m.q,.int .i64 m.a,.int .i64 m.wd,.int .i64 m.h,.int .i64 m.wt,.int .i64 m.x,.int .i64 m.z,.int .u32 m.s,.string m.d,.slice va vn vc]) rfl (by kernel_rfl) (by kernel_rfl) (by kernel_rfl) (fun _ _ _ h=>h) (Or.inl ⟨by kernel_rfl,fun W' hS=>?_⟩) h1 ?_
 · exact za1 rfl rfl ((hS.block _ l0).trans G6.out) rfl
 simp only [Act.put,List.setIfInBounds_toArray,List.set_cons_zero,List.set_cons_succ,List.getElem_toArray,List.getElem_cons_succ,List.getElem_cons_zero];refine wpAnyH_take (i:=4) (v:= .agg #[.int .i64 m.k,.int .i64 m.f,.int .i64 m.t,.int .i64 m.i,.int .i64 m.p,.int .i64 m.q,.int .i64 m.a,.int .i64 m.wd,.int .i64 m.h,.int .i64 m.wt,.int .i64 m.x,.int .i64 m.z,.int .u32 m.s,.string m.d,.slice va vn vc]) rfl (by kernel_rfl) (by kernel_rfl) (by kernel_rfl) (fun _ _ _ h=>h) (Or.inl ⟨by kernel_rfl,fun W' hS=>?_⟩) h1 ?_
 · exact za1 rfl rfl ((hS.block _ l0).trans G6.out) rfl
 simp only [Act.put,List.setIfInBounds_toArray,List.set_cons_zero,List.set_cons_succ,List.getElem_toArray,List.getElem_cons_succ,List.getElem_cons_zero];refine wpAnyH_ready (rs:=[3]) (by kernel_rfl) (by simp) (AllReadyH.cons rfl (fun K hK=>?_) AllReadyH.nil);replace hK:=zid hK
 go_simp
 refine (RT1.out _ h1).mono ?_;rintro e w17 ⟨rfl,b16⟩;have h2:=h1.trans (b16.mono h1.size);clear b16;dsimp only;refine hK.out _ _ h2 (fun _=>?_);clear hK K h1;simp only [List.setIfInBounds_toArray,List.set_cons_zero,List.set_cons_succ];refine wpAnyH_ready (rs:=[5]) (by kernel_rfl) (by simp) (AllReadyH.cons rfl (fun K hK=>?_) AllReadyH.nil);replace hK:=zid hK
 go_simp
 refine (RR1.out _ h2).mono ?_;rintro e w18 ⟨rfl,b16⟩;have h3:=h2.trans (b16.mono h2.size);clear b16;dsimp only;refine hK.out _ _ h3 (fun _=>?_);clear hK K h2;simp only [List.setIfInBounds_toArray,List.set_cons_zero,List.set_cons_succ];refine wpAnyH_take (i:=6) (v:= .bool true) rfl (by kernel_rfl) (by kernel_rfl) (by kernel_rfl) (fun _ _ _ h=>h) (Or.inl ⟨by kernel_rfl,fun W' hS=>?_⟩) h3 ?_
 · go_simp
 simp only [Act.put,List.setIfInBounds_toArray,List.set_cons_zero,List.set_cons_succ,List.getElem_toArray,List.getElem_cons_succ,List.getElem_cons_zero];refine wpAnyH_take (i:=7) (v:= .bool true) rfl (by kernel_rfl) (by kernel_rfl) (by kernel_rfl) (fun _ _ _ h=>h) (Or.inl ⟨by kernel_rfl,fun W' hS=>?_⟩) h3 ?_
 · go_simp
 simp only [Act.put,List.setIfInBounds_toArray,List.set_cons_zero,List.set_cons_succ,List.getElem_toArray,List.getElem_cons_succ,List.getElem_cons_zero];refine wpAnyH_take (i:=8) (v:= .bool true) rfl (by kernel_rfl) (by kernel_rfl) (by kernel_rfl) (fun _ _ _ h=>h) (Or.inl ⟨by kernel_rfl,fun W' hS=>?_⟩) h3 ?_
 · go_simp
 simp only [Act.put,List.setIfInBounds_toArray,List.set_cons_zero,List.set_cons_succ,List.getElem_toArray,List.getElem_cons_succ,List.getElem_cons_zero];refine wpAnyH_take (i:=9) (v:= .string A) rfl (by kernel_rfl) (by kernel_rfl) (by kernel_rfl) (fun _ _ _ h=>h) (Or.inl ⟨by kernel_rfl,fun W' hS=>?_⟩) h3 ?_
 · go_simp
 simp only [Act.put,List.setIfInBounds_toArray,List.set_cons_zero,List.set_cons_succ,List.getElem_toArray,List.getElem_cons_succ,List.getElem_cons_zero];refine wpAnyH_take (i:=10) (v:= .string A) rfl (by kernel_rfl) (by kernel_rfl) (by kernel_rfl) (fun _ _ _ h=>h) (Or.inl ⟨by kernel_rfl,fun W' hS=>?_⟩) h3 ?_
 · go_simp
 simp only [Act.put,List.setIfInBounds_toArray,List.set_cons_zero,List.set_cons_succ,List.getElem_toArray,List.getElem_cons_succ,List.getElem_cons_zero];refine wpAnyH_take (i:=11) (v:= .bool true) rfl (by kernel_rfl) (by kernel_rfl) (by kernel_rfl) (fun _ _ _ h=>h) (Or.inl ⟨by kernel_rfl,fun W' hS=>?_⟩) h3 ?_
 · go_simp
 simp only [Act.put,List.setIfInBounds_toArray,List.set_cons_zero,List.set_cons_succ,List.getElem_toArray,List.getElem_cons_succ,List.getElem_cons_zero];refine wpAnyH_take (i:=12) (v:= .bool true) rfl (by kernel_rfl) (by kernel_rfl) (by kernel_rfl) (fun _ _ _ h=>h) (Or.inl ⟨by kernel_rfl,fun W' hS=>?_⟩) h3 ?_
 · go_simp
 simp only [Act.put,List.setIfInBounds_toArray,List.set_cons_zero,List.set_cons_succ,List.getElem_toArray,List.getElem_cons_succ,List.getElem_cons_zero];refine wpAnyH_take (i:=13) (v:= .bool true) rfl (by kernel_rfl) (by kernel_rfl) (by kernel_rfl) (fun _ _ _ h=>h) (Or.inl ⟨by kernel_rfl,fun W' hS=>?_⟩) h3 ?_
 · go_simp
 simp only [Act.put,List.setIfInBounds_toArray,List.set_cons_zero,List.set_cons_succ,List.getElem_toArray,List.getElem_cons_succ,List.getElem_cons_zero];refine wpAnyH_take (i:=14) (v:= .int .i64 pe) rfl (by kernel_rfl) (by kernel_rfl) (by kernel_rfl) (fun _ _ _ h=>h) (Or.inl ⟨by kernel_rfl,fun W' hS=>?_⟩) h3 ?_
 · go_simp
 simp only [Act.put,List.setIfInBounds_toArray,List.set_cons_zero,List.set_cons_succ,List.getElem_toArray,List.getElem_cons_succ,List.getElem_cons_zero];refine wpAnyH_take (i:=15) (v:= .int .i64 pe) rfl (by kernel_rfl) (by kernel_rfl) (by kernel_rfl) (fun _ _ _ h=>h) (Or.inl ⟨by kernel_rfl,fun W' hS=>?_⟩) h3 ?_
 · go_simp
 simp only [Act.put,List.setIfInBounds_toArray,List.set_cons_zero,List.set_cons_succ,List.getElem_toArray,List.getElem_cons_succ,List.getElem_cons_zero];refine wpAnyH_take (i:=16) (v:= .bool true) rfl (by kernel_rfl) (by kernel_rfl) (by kernel_rfl) (fun _ _ _ h=>h) (Or.inl ⟨by kernel_rfl,fun W' hS=>?_⟩) h3 ?_
 · go_simp
 simp only [Act.put,List.setIfInBounds_toArray,List.set_cons_zero,List.set_cons_succ,List.getElem_toArray,List.getElem_cons_succ,List.getElem_cons_zero];refine wpAnyH_take (i:=17) (v:= .bool true) rfl (by kernel_rfl) (by kernel_rfl) (by kernel_rfl) (fun _ _ _ h=>h) (Or.inl ⟨by kernel_rfl,fun W' hS=>?_⟩) h3 ?_
 · go_simp
 simp only [Act.put,List.setIfInBounds_toArray,List.set_cons_zero,List.set_cons_succ,List.getElem_toArray,List.getElem_cons_succ,List.getElem_cons_zero];refine wpAnyH_take (i:=18) (v:= .bool true) rfl (by kernel_rfl) (by kernel_rfl) (by kernel_rfl) (fun _ _ _ h=>h) (Or.inl ⟨by kernel_rfl,fun W' hS=>?_⟩) h3 ?_
 · go_simp
 simp only [Act.put,List.setIfInBounds_toArray,List.set_cons_zero,List.set_cons_succ,List.getElem_toArray,List.getElem_cons_succ,List.getElem_cons_zero];refine wpAnyH_take (i:=19) (v:= .agg #[.int .i64 g.k,.int .i64 g.f,.int .i64 g.t,.int .i64 g.i,.int .i64 g.p,.int .i64 g.q,.int .i64 g.a,.int .i64 g.wd,.int .i64 g.h,.int .i64 g.wt,.int .i64 g.x,.int .i64 g.z,.int .u32 g.s,.string g.d,.slice xa xn xc]) rfl (by kernel_rfl) (by kernel_rfl) (by kernel_rfl) (fun _ _ _ h=>h) (Or.inl ⟨by kernel_rfl,fun W' hS=>?_⟩) h3 ?_
 · exact za1 rfl rfl ((hS.block _ l1).trans X6.out) rfl
 simp only [Act.put,List.setIfInBounds_toArray,List.set_cons_zero,List.set_cons_succ,List.getElem_toArray,List.getElem_cons_succ,List.getElem_cons_zero];refine wpAnyH_take (i:=20) (v:= .agg #[.int .i64 g.k,.int .i64 g.f,.int .i64 g.t,.int .i64 g.i,.int .i64 g.p,.int .i64 g.q,.int .i64 g.a,.int .i64 g.wd,.int .i64 g.h,.int .i64 g.wt,.int .i64 g.x,.int .i64 g.z,.int .u32 g.s,.string g.d,.slice ya yn yc]) rfl (by kernel_rfl) (by kernel_rfl) (by kernel_rfl) (fun _ _ _ h=>h) (Or.inl ⟨by kernel_rfl,fun W' hS=>?_⟩) h3 ?_
 · exact za1 rfl rfl ((hS.block _ l2).trans Y6.out) rfl
 simp only [Act.put,List.setIfInBounds_toArray,List.set_cons_zero,List.set_cons_succ,List.getElem_toArray,List.getElem_cons_succ,List.getElem_cons_zero];refine wpAnyH_ready (rs:=[21]) (by kernel_rfl) (by simp) (AllReadyH.cons rfl (fun K hK=>?_) AllReadyH.nil);replace hK:=zid hK
 go_simp
 refine (SM.out _ h3).mono ?_;rintro e w19 ⟨rfl,b16⟩;have h4:=h3.trans (b16.mono h3.size);clear b16;dsimp only;refine hK.out _ _ h4 (fun _=>?_);clear hK K h3;simp only [List.setIfInBounds_toArray,List.set_cons_zero,List.set_cons_succ];refine wpAnyH_take (i:=22) (v:= .bool true) rfl (by kernel_rfl) (by kernel_rfl) (by kernel_rfl) (fun _ _ _ h=>h) (Or.inl ⟨by kernel_rfl,fun W' hS=>?_⟩) h4 ?_
 · go_simp
 simp only [Act.put,List.setIfInBounds_toArray,List.set_cons_zero,List.set_cons_succ,List.getElem_toArray,List.getElem_cons_succ,List.getElem_cons_zero];refine wpAnyH_take (i:=23) (v:= .bool true) rfl (by kernel_rfl) (by kernel_rfl) (by kernel_rfl) (fun _ _ _ h=>h) (Or.inl ⟨by kernel_rfl,fun W' hS=>?_⟩) h4 ?_
 · go_simp
 simp only [Act.put,List.setIfInBounds_toArray,List.set_cons_zero,List.set_cons_succ,List.getElem_toArray,List.getElem_cons_succ,List.getElem_cons_zero];refine wpAnyH_take (i:=24) (v:= .int .i64 er) rfl (by kernel_rfl) (by kernel_rfl) (by kernel_rfl) (fun _ _ _ h=>h) (Or.inl ⟨by kernel_rfl,fun W' hS=>?_⟩) h4 ?_
 · go_simp
 simp only [Act.put,List.setIfInBounds_toArray,List.set_cons_zero,List.set_cons_succ,List.getElem_toArray,List.getElem_cons_succ,List.getElem_cons_zero];refine wpAnyH_take (i:=25) (v:= .int .i64 er) rfl (by kernel_rfl) (by kernel_rfl) (by kernel_rfl) (fun _ _ _ h=>h) (Or.inl ⟨by kernel_rfl,fun W' hS=>?_⟩) h4 ?_
 · go_simp
 simp only [Act.put,List.setIfInBounds_toArray,List.set_cons_zero,List.set_cons_succ,List.getElem_toArray,List.getElem_cons_succ,List.getElem_cons_zero];refine wpAnyH_take (i:=26) (v:= .bool true) rfl (by kernel_rfl) (by kernel_rfl) (by kernel_rfl) (fun _ _ _ h=>h) (Or.inl ⟨by kernel_rfl,fun W' hS=>?_⟩) h4 ?_
 · go_simp
 simp only [Act.put,List.setIfInBounds_toArray,List.set_cons_zero,List.set_cons_succ,List.getElem_toArray,List.getElem_cons_succ,List.getElem_cons_zero];refine wpAnyH_take (i:=27) (v:= .bool true) rfl (by kernel_rfl) (by kernel_rfl) (by kernel_rfl) (fun _ _ _ h=>h) (Or.inl ⟨by kernel_rfl,fun W' hS=>?_⟩) h4 ?_
 · go_simp
 simp only [Act.put,List.setIfInBounds_toArray,List.set_cons_zero,List.set_cons_succ,List.getElem_toArray,List.getElem_cons_succ,List.getElem_cons_zero];refine wpAnyH_take (i:=28) (v:= .bool true) rfl (by kernel_rfl) (by kernel_rfl) (by kernel_rfl) (fun _ _ _ h=>h) (Or.inl ⟨by kernel_rfl,fun W' hS=>?_⟩) h4 ?_
 · go_simp
 simp only [Act.put,List.setIfInBounds_toArray,List.set_cons_zero,List.set_cons_succ,List.getElem_toArray,List.getElem_cons_succ,List.getElem_cons_zero];refine wpAnyH_done (by kernel_rfl) ?_ _;have HQ:=zid h4;clear h4;go_wp2_with fail;go_ret;exact ⟨by first | rfl | simp,B6.out.trans (HQ.out.mono B6.out.size)⟩
theorem tells16 (va:Option Addr) (vn vc:Nat) (m:Ms) (s:ByteArray) (w:World) (hv:zae w (.slice va vn vc) m.l) (hB:MsB m):
 Calls Try.prog 3 #[zag (.slice va vn vc) m,.string s] w fun e w'=>e= .returned (.bool true)/\Below w.heap.size w w':=by
 rcases hb:zaJ m with _ | _
 · exact zcb va vn vc m s w hv (.inl hb)
 · by_cases h:2000<s.size
   · exact zcb va vn vc m s w hv (.inr ⟨hb,h⟩)
   · exact zdf va vn vc m s w hv hB hb (by omega)
end Wr
end Go.Proofs.Ytmkdcpjlhphhiaa

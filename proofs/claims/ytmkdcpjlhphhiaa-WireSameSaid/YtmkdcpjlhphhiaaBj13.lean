/-
  Parts of what the laws of this seat stand on:WirGet,WirAwk,RecFew,WirKw.
-/
import Derived.Test.YtmkdcpjlhphhiaaBj1
import Derived.Outline
import Derived.Test.YtmkdcpjlhphhiaaBj10
import Derived.Test.YtmkdcpjlhphhiaaBj12
import Derived.Test.YtmkdcpjlhphhiaaBj4
import Derived.Test.YtmkdcpjlhphhiaaBj5
import Derived.Test.YtmkdcpjlhphhiaaBj6
set_option maxRecDepth 100000
set_option maxHeartbeats 6400000
namespace Go.Proofs.Ytmkdcpjlhphhiaa
namespace Wr
open Go.RowKit Qm Wq Mfs
theorem zbK {base k:Nat} {w W:World} (h:Below base w W) (hk:base<=k) (c0 c1 c2 c3 c4 c5 c6 c7 c8 c9 c10 c11 c12 c13 c14:Value):Below base w (((((((((((((((W.setCell ⟨k,0,none⟩ c0).setCell ⟨k,1,none⟩ c1).setCell ⟨k,2,none⟩ c2).setCell ⟨k,3,none⟩ c3).setCell ⟨k,4,none⟩ c4).setCell ⟨k,5,none⟩ c5).setCell ⟨k,6,none⟩ c6).setCell ⟨k,7,none⟩ c7).setCell ⟨k,8,none⟩ c8).setCell ⟨k,9,none⟩ c9).setCell ⟨k,10,none⟩ c10).setCell ⟨k,11,none⟩ c11).setCell ⟨k,12,none⟩ c12).setCell ⟨k,13,none⟩ c13).setCell ⟨k,14,none⟩ c14):=
 (((((((((((((((h).setCell (p:=⟨k,0,none⟩) hk c0).setCell (p:=⟨k,1,none⟩) hk c1).setCell (p:=⟨k,2,none⟩) hk c2).setCell (p:=⟨k,3,none⟩) hk c3).setCell (p:=⟨k,4,none⟩) hk c4).setCell (p:=⟨k,5,none⟩) hk c5).setCell (p:=⟨k,6,none⟩) hk c6).setCell (p:=⟨k,7,none⟩) hk c7).setCell (p:=⟨k,8,none⟩) hk c8).setCell (p:=⟨k,9,none⟩) hk c9).setCell (p:=⟨k,10,none⟩) hk c10).setCell (p:=⟨k,11,none⟩) hk c11).setCell (p:=⟨k,12,none⟩) hk c12).setCell (p:=⟨k,13,none⟩) hk c13).setCell (p:=⟨k,14,none⟩) hk c14
def zap (w:World) (R:Ms×Int) (e:Ending) (w':World):Prop:=∃a n c,e= .returned (.tuple #[zag (.slice a n c) R.1,.int .i64 R.2])/\zae w' (.slice a n c) R.1.l/\Below w.heap.size w w'
theorem zap.mk0 {w w':World} (er:Int) (hb:Below w.heap.size w w'):zap w (zero,er) (.returned (.tuple #[.agg #[.int .i64 0,.int .i64 0,.int .i64 0,.int .i64 0,.int .i64 0,.int .i64 0,.int .i64 0,.int .i64 0,.int .i64 0,.int .i64 0,.int .i64 0,.int .i64 0,.int .u32 0,.string ⟨#[]⟩,.slice none 0 0],.int .i64 er])) w':=⟨none,0,0,rfl,zae.nil w' none 0,hb⟩
theorem wget_err (s:ByteArray) (er:Nat) (w:World) (hs:s.size<=140737488351232) (he:Fr.nx s.data.toList=(er,0,[])) (h3:er=2\/er=3\/er=4):
 Calls Try.prog 11 #[.string s] w (zap w (getW s.data.toList)):=by
 rw [zb6 he (by omega)];have C:=fun W:World=>zdF s 0 W hs;rw [show (0:Int)=((0:Nat):Int) from rfl,zbQ,zaD (k:=0) he (by omega)] at C;replace C:=zid C;have HA:=zid ((Below.refl w.heap.size w).alloc (Nat.le_refl _) (.cells #[.int .i64 0,.int .i64 0,.int .i64 0,.int .i64 0,.int .i64 0,.int .i64 0,.int .i64 0,.int .i64 0,.int .i64 0,.int .i64 0,.int .i64 0,.int .i64 0,.int .u32 0,.string ⟨#[]⟩,.slice none 0 0] 25));have G0:=zid (heap_alloc_new w (.cells #[.int .i64 0,.int .i64 0,.int .i64 0,.int .i64 0,.int .i64 0,.int .i64 0,.int .i64 0,.int .i64 0,.int .i64 0,.int .i64 0,.int .i64 0,.int .i64 0,.int .u32 0,.string ⟨#[]⟩,.slice none 0 0] 25));clear he
 rcases h3 with rfl | rfl | rfl
 all_goals
  go_enter Try.func11,Try.ntmps11
  go_wp2_with fail;refine (C.out _).mono ?_;rintro e w1 ⟨rfl,b1⟩;have G1:=zid ((b1.block w.heap.size (Array.getElem?_eq_some_iff.1 G0.out).1).trans G0.out);have B1:=zid (HA.out.trans (b1.mono HA.out.size));obtain ⟨z0,z1,z2,z3,z4,z5,z6,z7,z8,z9,z10,z11,z12,z13,z14⟩:=zaa G1.out;have fr:=zac G1.out;clear b1;go_wp2_with fail;refine bodyPost_ret (v:= .tuple #[.agg #[.int .i64 0,.int .i64 0,.int .i64 0,.int .i64 0,.int .i64 0,.int .i64 0,.int .i64 0,.int .i64 0,.int .i64 0,.int .i64 0,.int .i64 0,.int .i64 0,.int .u32 0,.string ⟨#[]⟩,.slice none 0 0],.int .i64 _]) (by simp [results,Try.results11,go_sem,z0,z1,z2,z3,z4,z5,z6,z7,z8,z9,z10,z11,z12,z13,z14];rfl) rfl ?_;exact zap.mk0 _ (zbK B1.out (Nat.le_refl _) _ _ _ _ _ _ _ _ _ _ _ _ _ _ _)
theorem ze5 (s:ByteArray) (j:Nat) (b:List UInt8) (w:World) (hs:s.size<=140737488351232) (he:Fr.nx s.data.toList=(0,j,b)) (hbm:Fr.May b.length) (hjl:j<=s.data.toList.length):
 Calls Try.prog 11 #[.string s] w (zap w (getW s.data.toList)):=by
 have C:=fun W:World=>zdF s 0 W hs;rw [show (0:Int)=((0:Nat):Int) from rfl,zbQ,zbD (k:=0) he,Nat.zero_add] at C;replace C:=zid C;have HA:=zid ((Below.refl w.heap.size w).alloc (Nat.le_refl _) (.cells #[.int .i64 0,.int .i64 0,.int .i64 0,.int .i64 0,.int .i64 0,.int .i64 0,.int .i64 0,.int .i64 0,.int .i64 0,.int .i64 0,.int .i64 0,.int .i64 0,.int .u32 0,.string ⟨#[]⟩,.slice none 0 0] 25));have G0:=zid (heap_alloc_new w (.cells #[.int .i64 0,.int .i64 0,.int .i64 0,.int .i64 0,.int .i64 0,.int .i64 0,.int .i64 0,.int .i64 0,.int .i64 0,.int .i64 0,.int .i64 0,.int .i64 0,.int .u32 0,.string ⟨#[]⟩,.slice none 0 0] 25));have HE:=zid he;have MR:=zid fun (r:Nat) (W:World) (h:WR r b false W)=>wmsg_any r b false W h (by have:=hbm.2;omega);have HBL:=zid (show b.length<=9223372036854775807 by have:=hbm.2;omega);obtain ⟨BS,hBS⟩:∃BS:ByteArray,(⟨b.toArray⟩:ByteArray)=BS:=⟨_,rfl⟩;rw [hBS] at C;have HBS:=zid hBS;clear he hbm hBS
 go_enter Try.func11,Try.ntmps11
 go_wp2_with fail;refine (C.out _).mono ?_;rintro e w1 ⟨rfl,b1⟩;have G1:=zid ((b1.block w.heap.size (Array.getElem?_eq_some_iff.1 G0.out).1).trans G0.out);have B1:=zid (HA.out.trans (b1.mono HA.out.size));have hs1:=B1.out.size;clear b1 G0 HA;go_wp2_with fail
 have R0:WR w1.heap.size b false (w1.alloc (.cells #[.string BS,.bool false] 51)):=by
  rw [<-HBS.out];exact heap_alloc_new w1 _
 refine (MR.out w1.heap.size _ R0).mono ?_;obtain ⟨m,hm⟩:∃m,(msgR offA b false).1=m:=⟨_,rfl⟩;obtain ⟨l4,hl4⟩:∃l4,(msgR offA b false).2.1=l4:=⟨_,rfl⟩;obtain ⟨b4,hb4⟩:∃b4,(msgR offA b false).2.2=b4:=⟨_,rfl⟩;have HNO:=zid fun (h:b4=true\/l4≠[]\/j≠s.data.toList.length\/ ¬Ok m)=>zep (off:=offA) (fun _ _ h0 h1 h2=>zfy h0 h1 h2) HE.out (by rw [hm,hl4,hb4];exact h);have HYE:=zid fun (h1:b4=false) (h2:l4=[]) (h3:j=s.data.toList.length) (h4:Ok m)=>zdC (off:=offA) HE.out (by rw [hb4];exact h1) (by rw [hl4];exact h2) h3 (by rw [hm];exact h4);have HMB:=zid (show MsB m by rw [<-hm];exact msgR_B b false HBL.out);rw [hm] at HYE;rw [hm,hl4,hb4];clear hm hl4 hb4;rintro e w3 ⟨sa,sn,sc,rfl,hi3,ho3,h3,g3⟩
 have B3:=zid ((B1.out.alloc hs1 (.cells #[.string BS,.bool false] 51)).grown g3 (by simp;omega) (fun k hk=>by injection hk with hk;omega))
 have HI3:=zid hi3;have H3:=zid h3;have HOW:=zid (show ∀q,(Value.slice sa sn sc).ownBlock=some q->w.heap.size<q from fun q hq=>by have:=ho3 q hq;simp at this;have:=(Array.getElem?_eq_some_iff.1 G1.out).1;omega);have hlt:w.heap.size<w1.heap.size:=(Array.getElem?_eq_some_iff.1 G1.out).1
 have G3:=zid (((g3.block w.heap.size (by simp;omega) (fun e=>by injection e with e;omega)).trans (Below.heap_alloc w1 _ _ hlt)).trans G1.out)
 have hs3:=g3.size;clear hi3 ho3 h3 g3 R0;unfold zag;have A4:=zid ((Below.refl w3.heap.size w3).alloc (Nat.le_refl _) (.cells #[.int .i64 m.k,.int .i64 m.f,.int .i64 m.t,.int .i64 m.i,.int .i64 m.p,.int .i64 m.q,.int .i64 m.a,.int .i64 m.wd,.int .i64 m.h,.int .i64 m.wt,.int .i64 m.x,.int .i64 m.z,.int .u32 m.s,.string m.d,.slice sa sn sc] 25));have G4:=zid (heap_alloc_new w3 (.cells #[.int .i64 m.k,.int .i64 m.f,.int .i64 m.t,.int .i64 m.i,.int .i64 m.p,.int .i64 m.q,.int .i64 m.a,.int .i64 m.wd,.int .i64 m.h,.int .i64 m.wt,.int .i64 m.x,.int .i64 m.z,.int .u32 m.s,.string m.d,.slice sa sn sc] 25));have H4:=zid (H3.out.keep A4.out);have RS4:=zid ((A4.out.block w.heap.size (Array.getElem?_eq_some_iff.1 G3.out).1).trans G3.out);have HI4:=zid (zab HI3.out A4.out);have B4:=zid (B3.out.trans (A4.out.mono B3.out.size));obtain ⟨r0,r1,r2,r3,r4,r5,r6,r7,r8,r9,r10,r11,r12,r13,r14⟩:=zaa G4.out;obtain ⟨d0,d1,e0,e1⟩:=H4.out.cells;obtain ⟨z0,z1,z2,z3,z4,z5,z6,z7,z8,z9,z10,z11,z12,z13,z14⟩:=zaa RS4.out;have fr:=zac RS4.out
 have hne:w1.heap.size≠w3.heap.size:=by have:=H3.out.lt;omega
 have HZ:=zid (show s.data.toList.length=s.size from rfl);have hjs:j<=s.size:=hjl;clear hjl
 cases b4 with
 | true=>
  have HF:=zid (HNO.out (.inl rfl));go_wp2_with fail;refine bodyPost_ret (v:= .tuple #[.agg #[.int .i64 0,.int .i64 0,.int .i64 0,.int .i64 0,.int .i64 0,.int .i64 0,.int .i64 0,.int .i64 0,.int .i64 0,.int .i64 0,.int .i64 0,.int .i64 0,.int .u32 0,.string ⟨#[]⟩,.slice none 0 0],.int .i64 3]) (by simp [results,Try.results11,go_sem,z0,z1,z2,z3,z4,z5,z6,z7,z8,z9,z10,z11,z12,z13,z14]) rfl ?_;rw [HF.out];exact zap.mk0 3 (zbK B4.out (Nat.le_refl _) _ _ _ _ _ _ _ _ _ _ _ _ _ _ _)
 | false=>
  by_cases hl:l4=[]
  case neg=>
   have HF:=zid (HNO.out (.inr (.inl hl)));obtain ⟨X,hX⟩:∃X:ByteArray,(⟨l4.toArray⟩:ByteArray)=X:=⟨_,rfl⟩
   have hq:X.toList.isEmpty=false:=by
    rw [ByteArray.toList_eq, <-hX]
    cases l4 with
    | nil=>exact absurd rfl hl
    | cons x t=>rfl
   rw [hX] at d0;clear hl;go_wp2_with fail;refine bodyPost_ret (v:= .tuple #[.agg #[.int .i64 0,.int .i64 0,.int .i64 0,.int .i64 0,.int .i64 0,.int .i64 0,.int .i64 0,.int .i64 0,.int .i64 0,.int .i64 0,.int .i64 0,.int .i64 0,.int .u32 0,.string ⟨#[]⟩,.slice none 0 0],.int .i64 3]) (by simp [results,Try.results11,go_sem,z0,z1,z2,z3,z4,z5,z6,z7,z8,z9,z10,z11,z12,z13,z14]) rfl ?_;rw [HF.out];exact zap.mk0 3 (zbK B4.out (Nat.le_refl _) _ _ _ _ _ _ _ _ _ _ _ _ _ _ _)
  subst hl
  by_cases hj:j<s.size
  · have HF:=zid (HNO.out (.inr (.inr (.inl (by rw [HZ.out];omega)))))
    have hj2:(j:Int)<(s.size:Int):=by omega
    go_wp2_with fail;refine bodyPost_ret (v:= .tuple #[.agg #[.int .i64 0,.int .i64 0,.int .i64 0,.int .i64 0,.int .i64 0,.int .i64 0,.int .i64 0,.int .i64 0,.int .i64 0,.int .i64 0,.int .i64 0,.int .i64 0,.int .u32 0,.string ⟨#[]⟩,.slice none 0 0],.int .i64 3]) (by simp [results,Try.results11,go_sem,z0,z1,z2,z3,z4,z5,z6,z7,z8,z9,z10,z11,z12,z13,z14]) rfl ?_;rw [HF.out];exact zap.mk0 3 (zbK B4.out (Nat.le_refl _) _ _ _ _ _ _ _ _ _ _ _ _ _ _ _)
  have hj2:decide ((j:Int)<(s.size:Int))=false:=by simp;omega
  by_cases hok:Ok m
  case neg=>
   have HF:=zid (HNO.out (.inr (.inr (.inr hok))));have RR:=zaK sa sn sc m false _ HI4.out HMB.out ⟨(fun h=>by cases h),fun hk=>absurd hk hok⟩;unfold zag at RR;replace RR:=zid RR;clear hok;go_wp2_with fail;refine RR.out.mono ?_;rintro e w5 ⟨rfl,b5⟩;have RS5:=zid ((b5.block w.heap.size (Array.getElem?_eq_some_iff.1 RS4.out).1).trans RS4.out);have B5:=zid (B4.out.trans (b5.mono B4.out.size));clear b5 z0 z1 z2 z3 z4 z5 z6 z7 z8 z9 z10 z11 z12 z13 z14 fr r0 r1 r2 r3 r4 r5 r6 r7 r8 r9 r10 r11 r12 r13 r14 d0 d1 e0 e1;obtain ⟨z0,z1,z2,z3,z4,z5,z6,z7,z8,z9,z10,z11,z12,z13,z14⟩:=zaa RS5.out;have fr:=zac RS5.out;go_wp2_with fail;refine bodyPost_ret (v:= .tuple #[.agg #[.int .i64 0,.int .i64 0,.int .i64 0,.int .i64 0,.int .i64 0,.int .i64 0,.int .i64 0,.int .i64 0,.int .i64 0,.int .i64 0,.int .i64 0,.int .i64 0,.int .u32 0,.string ⟨#[]⟩,.slice none 0 0],.int .i64 3]) (by simp [results,Try.results11,go_sem,z0,z1,z2,z3,z4,z5,z6,z7,z8,z9,z10,z11,z12,z13,z14]) rfl ?_;rw [HF.out];exact zap.mk0 3 (zbK B5.out (Nat.le_refl _) _ _ _ _ _ _ _ _ _ _ _ _ _ _ _)
  · have HF:=zid (HYE.out rfl rfl (by rw [HZ.out];omega) hok)
    have RR:=zaK sa sn sc m true _ HI4.out HMB.out ⟨fun _=>hok,fun _=>rfl⟩
    unfold zag at RR;replace RR:=zid RR;clear hok;go_wp2_with fail;refine RR.out.mono ?_;rintro e w5 ⟨rfl,b5⟩;have RS5:=zid ((b5.block w.heap.size (Array.getElem?_eq_some_iff.1 RS4.out).1).trans RS4.out);have G5:=zid ((b5.block w3.heap.size (Array.getElem?_eq_some_iff.1 G4.out).1).trans G4.out);have B5:=zid (B4.out.trans (b5.mono B4.out.size));have HI5:=zid (zab HI4.out b5)
    have hwne:w.heap.size≠w3.heap.size:=by have:=(Array.getElem?_eq_some_iff.1 G3.out).1;omega
    clear b5 z0 z1 z2 z3 z4 z5 z6 z7 z8 z9 z10 z11 z12 z13 z14 fr r0 r1 r2 r3 r4 r5 r6 r7 r8 r9 r10 r11 r12 r13 r14 d0 d1 e0 e1;obtain ⟨z0,z1,z2,z3,z4,z5,z6,z7,z8,z9,z10,z11,z12,z13,z14⟩:=zaa RS5.out;obtain ⟨r0,r1,r2,r3,r4,r5,r6,r7,r8,r9,r10,r11,r12,r13,r14⟩:=zaa G5.out;have fr:=zac RS5.out;go_wp2_with fail;refine bodyPost_ret (v:= .tuple #[.agg #[.int .i64 m.k,.int .i64 m.f,.int .i64 m.t,.int .i64 m.i,.int .i64 m.p,.int .i64 m.q,.int .i64 m.a,.int .i64 m.wd,.int .i64 m.h,.int .i64 m.wt,.int .i64 m.x,.int .i64 m.z,.int .u32 m.s,.string m.d,.slice sa sn sc],.int .i64 0]) (by simp [results,Try.results11,go_sem,z0,z1,z2,z3,z4,z5,z6,z7,z8,z9,z10,z11,z12,z13,z14]) rfl ?_;rw [HF.out];exact ⟨sa,sn,sc,rfl,zaT HI5.out (fun q hq=>by have:=HOW.out q hq;omega) (zbS w5 w.heap.size _ _ _ _ _ _ _ _ _ _ _ _ _ _ _),zbK B5.out (Nat.le_refl _) _ _ _ _ _ _ _ _ _ _ _ _ _ _ _⟩
theorem zbp (s:ByteArray) (w:World) (hs:s.size<=140737488351232):
 Calls Try.prog 11 #[.string s] w (zap w (getW s.data.toList)):=by
 rcases Fr.nx_cases s.data.toList with ⟨er,h,he⟩ | ⟨j,b,h,_,hj,hb,_⟩
 · exact wget_err s er w hs h he
 · exact ze5 s j b w hs h hb hj
def aw16:Ms:=⟨1,1,0,1,0,1,0,100,0,0,0,0,0,⟨#[]⟩,[]⟩
theorem zfS:Wq.Ok aw16:=
 ⟨⟨by decide,by decide,by decide,by decide,by decide,by decide,by decide,by decide,by decide,by decide,by decide,by decide,by decide⟩,
  .inl ⟨rfl,by decide,by decide,by decide,by decide,by decide,by decide,rfl,rfl,rfl,rfl,rfl⟩⟩
theorem aw16_B:MsB aw16:=by
 refine ⟨?_,?_,?_,?_,?_,?_,?_,?_,?_,?_,?_,?_,⟨by decide,by decide⟩,by decide⟩
 all_goals
  unfold I64
  decide
theorem aw16_len:(Fr.fr (Wq.body aw16)).length=15:=by
 have e:Wq.body aw16=[1,1,0,1,0,1,0,100,0,0]:=by rfl
 rw [e,Fr.fr_len]
 rfl
theorem zbb (w:World):Calls Try.prog 8 #[] w fun e w'=>e= .returned (.bool true)/\Below w.heap.size w w':=by
 have A0:=zid ((Below.refl w.heap.size w).alloc (Nat.le_refl _) (.cells #[.int .i64 1,.int .i64 1,.int .i64 0,.int .i64 1,.int .i64 0,.int .i64 1,.int .i64 0,.int .i64 100,.int .i64 0,.int .i64 0,.int .i64 0,.int .i64 0,.int .u32 0,.string ⟨#[]⟩,.slice none 0 0] 25));have G0:=zid (heap_alloc_new w (.cells #[.int .i64 1,.int .i64 1,.int .i64 0,.int .i64 1,.int .i64 0,.int .i64 1,.int .i64 0,.int .i64 100,.int .i64 0,.int .i64 0,.int .i64 0,.int .i64 0,.int .u32 0,.string ⟨#[]⟩,.slice none 0 0] 25));have PT:=fun W:World=>zb1 none 0 0 aw16 W (zae.nil W none 0) aw16_B;unfold zao at PT;rw [zbs zfS] at PT;obtain ⟨A,hA⟩:∃A:ByteArray,(⟨(Fr.fr (Wq.body aw16)).toArray⟩:ByteArray)=A:=⟨_,rfl⟩
 have hz:A.size=15:=by rw [<-hA,zai];exact aw16_len
 have GT:=fun W:World=>zbp A W (by omega);rw [show A.data.toList=Fr.fr (Wq.body aw16) from by rw [<-hA],zc3 zfS] at GT;dsimp only at PT;rw [hA] at PT;have SM:=fun (a:Option Addr) (n c:Nat) (W:World) (h:zae W (.slice a n c) aw16.l)=>zbf none 0 0 a n c aw16 aw16 true W (zae.nil W none 0) h ⟨fun _=>rfl,fun _=>rfl⟩;unfold zag aw16 at PT SM;dsimp only at PT SM;replace PT:=zid PT;replace GT:=zid GT;replace SM:=zid SM;clear hA;obtain ⟨x0,x1,x2,x3,x4,x5,x6,x7,x8,x9,x10,x11,x12,x13,x14⟩:=zaa G0.out
 go_enter Try.func8,Try.ntmps8
 go_wp2_with fail;refine (PT.out _).mono ?_;rintro e w1 ⟨rfl,b1⟩;have B1:=zid (A0.out.trans (b1.mono A0.out.size));have G1:=zid ((b1.block w.heap.size (Array.getElem?_eq_some_iff.1 G0.out).1).trans G0.out);clear b1 A0 G0 x0 x1 x2 x3 x4 x5 x6 x7 x8 x9 x10 x11 x12 x13 x14;go_wp2_with fail;refine (GT.out _).mono ?_;rintro e w2 ⟨a,n,c,rfl,hv,b2⟩;have HV:=zid hv;have B2:=zid (B1.out.trans (b2.mono B1.out.size));have G2:=zid ((b2.block w.heap.size (Array.getElem?_eq_some_iff.1 G1.out).1).trans G1.out);clear b2 hv B1 G1;unfold zag aw16;dsimp only;have A3:=zid ((Below.refl w2.heap.size w2).alloc (Nat.le_refl _) (.cells #[.int .i64 1,.int .i64 1,.int .i64 0,.int .i64 1,.int .i64 0,.int .i64 1,.int .i64 0,.int .i64 100,.int .i64 0,.int .i64 0,.int .i64 0,.int .i64 0,.int .u32 0,.string ⟨#[]⟩,.slice a n c] 25));have G3:=zid (heap_alloc_new w2 (.cells #[.int .i64 1,.int .i64 1,.int .i64 0,.int .i64 1,.int .i64 0,.int .i64 1,.int .i64 0,.int .i64 100,.int .i64 0,.int .i64 0,.int .i64 0,.int .i64 0,.int .u32 0,.string ⟨#[]⟩,.slice a n c] 25));have G4:=zid ((A3.out.block w.heap.size (Array.getElem?_eq_some_iff.1 G2.out).1).trans G2.out);have HV3:=zid (zab HV.out A3.out);have B3:=zid (B2.out.trans (A3.out.mono B2.out.size));obtain ⟨x0,x1,x2,x3,x4,x5,x6,x7,x8,x9,x10,x11,x12,x13,x14⟩:=zaa G4.out;obtain ⟨y0,y1,y2,y3,y4,y5,y6,y7,y8,y9,y10,y11,y12,y13,y14⟩:=zaa G3.out;go_wp2_with fail;refine (SM.out _ _ _ _ HV3.out).mono ?_;rintro e w5 ⟨rfl,b5⟩;have B5:=zid (B3.out.trans (b5.mono B3.out.size));obtain ⟨z0,z1,z2,z3,z4,z5,z6,z7,z8,z9,z10,z11,z12,z13,z14⟩:=zaa ((b5.block w2.heap.size (Array.getElem?_eq_some_iff.1 G3.out).1).trans G3.out);clear b5;go_wp2_with fail;go_ret;exact ⟨by first | rfl | simp,B5.out⟩
end Wr
section
open Go.RowKit
def fewB (rs:List Rp.Rec) (most:Int):Bool:=decide ((rs.length:Int)<=most)&&rs.all fun r=>decide (r.d.size<=300)
theorem zfJ {rs:List Rp.Rec} {most:Int} (h:most<(rs.length:Int)):fewB rs most=false:=by
 unfold fewB;rw [Bool.and_eq_false_iff];exact .inl (decide_eq_false (by omega))
theorem fewB_big {rs:List Rp.Rec} {most:Int} {r:Rp.Rec} (hr:r∈rs) (h:300<r.d.size):fewB rs most=false:=by
 unfold fewB;rw [Bool.and_eq_false_iff,List.all_eq_false];exact .inr ⟨r,hr,by simpa using h⟩
theorem zer {rs:List Rp.Rec} {most:Int} (h:(rs.length:Int)<=most) (hs:∀r∈rs,r.d.size<=300):fewB rs most=true:=by
 unfold fewB;rw [Bool.and_eq_true,List.all_eq_true];exact ⟨decide_eq_true h,fun r hr=>decide_eq_true (hs r hr)⟩
theorem few_none (a:Option Addr) (cap:Nat) (most:Int) (w:World) (h:0<=most):
 Calls Try.prog 18 #[.slice a 0 cap,.int .i64 most] w fun e w'=>e= .returned (.bool true)/\w=w':=by
 go_enter Try.func18,Try.ntmps18
 go_wp2_with fail;refine wp_loop_rounds 1 ?_;rw [rounds_succ];go_wp2_with fail;go_ret;exact ⟨rfl,rfl⟩
theorem few_long (a:Option Addr) (len cap:Nat) (most:Int) (w:World) (h:most<(len:Int)):
 Calls Try.prog 18 #[.slice a len cap,.int .i64 most] w fun e w'=>e= .returned (.bool false)/\w=w':=by
 go_enter Try.func18,Try.ntmps18
 go_wp2_with fail;go_ret;exact ⟨rfl,rfl⟩
theorem zeJ {rs:List Rp.Rec} {k:Nat} (hk:k<rs.length) (h:∀r∈rs.take k,r.d.size<=300) (h1:(rs.getD k Rp.zero).d.size<=300):∀r∈rs.take (k+1),r.d.size<=300:=by
 intro r hr;rw [List.take_succ_eq_append_getElem hk] at hr
 rcases List.mem_append.1 hr with hr | hr
 · exact h r hr
 · rw [List.mem_singleton] at hr
   have e:rs.getD k Rp.zero=rs[k]:=by simp [List.getD_eq_getElem?_getD,hk]
   rw [hr, <-e];exact h1
theorem few_some (rs:List Rp.Rec) (b off cap:Nat) (most:Int) (w:World) (hl:(rs.length:Int)<=most) (hm:rs.length<=maxLen)
 (hc:∀i,i<rs.length->w.cell? ⟨b,off+i*3,none⟩=some (.int .i64 (rs.getD i Rp.zero).a)/\w.cell? ⟨b,off+i*3+1,none⟩=some (.int .i64 (rs.getD i Rp.zero).t)/\w.cell? ⟨b,off+i*3+2,none⟩=some (.string (rs.getD i Rp.zero).d)):
 Calls Try.prog 18 #[.slice (some ⟨b,off,none⟩) rs.length cap,.int .i64 most] w fun e w'=>e= .returned (.bool (fewB rs most))/\w=w':=by
 unfold maxLen at hm;have HC:=zid hc;have HY:=zid (@zer rs most hl);have HN:=zid fun (r:Rp.Rec)=> @fewB_big rs most r;clear hc;obtain ⟨len,hlen⟩:∃len,rs.length=len:=⟨_,rfl⟩;rw [hlen] at HC hl hm ⊢;have HL:=zid hlen;clear hlen
 go_enter Try.func18,Try.ntmps18
 go_wp2_with fail
 go_loop [5] (fun i=>∃k:Nat,k<=len/\i= .int .i64 k/\∀r∈rs.take k,r.d.size<=300) (fun i=>len-(intOf i).toNat)
 case atStart=>exact ⟨0,Nat.zero_le _,rfl,by simp⟩
 case round=>
  obtain ⟨k,hk,rfl,hs⟩:=hrel;have HS:=zid hs;clear hs
  by_cases hlt:k<len
  · have hlt':k<rs.length:=by rw [HL.out];exact hlt
    obtain ⟨c0,c1,c2⟩:=HC.out k hlt
    have HT:=zid (zeJ hlt' HS.out)
    have HI:Hid (rs.getD k Rp.zero∈rs):=zid (by
     have e:rs.getD k Rp.zero=rs[k]:=by simp [List.getD_eq_getElem?_getD,hlt']
     rw [e];exact List.getElem_mem _)
    clear hlt';generalize rs.getD k Rp.zero=r at*
    by_cases hb:300<(r.d.size:Int)
    · have HF:=zid (HN.out r HI.out (by omega))
      go_wp2_with fail
      go_ret;exact ⟨by rw [HF.out];rfl,rfl⟩
    · have HF:=zid (HT.out (by omega))
      go_wp2_with fail
      go_round
      case rel=>exact ⟨k+1,by omega,by go_num,HF.out⟩
      case measure=>simp [intOf];omega
  · have hall:rs.take k=rs:=List.take_of_length_le (by rw [HL.out];omega)
    have HF:=zid (HY.out (by have:=HS.out;rwa [hall] at this))
    clear hall;go_wp2_with fail;go_ret;exact ⟨by rw [HF.out];rfl,rfl⟩
theorem few_any (v:Value) (rs:List Rp.Rec) (most:Int) (w:World) (h0:0<=most) (h:zae w v rs):
 Calls Try.prog 18 #[v,.int .i64 most] w fun e w'=>e= .returned (.bool (fewB rs most))/\w=w':=by
 obtain ⟨a,cap,rfl,hm,_,h3⟩:=h
 by_cases hl:(rs.length:Int)<=most
 · rcases h3 with rfl | ⟨b,off,rfl,h4⟩
   · rw [zer hl (by simp)]
     exact few_none a cap most w h0
   · exact few_some rs b off cap most w hl hm h4
 · rw [zfJ (by omega)]
   exact few_long a rs.length cap most w (by omega)
end
namespace Wr
open Go.RowKit Qm Wq Mfs
section
variable {w0 W W':World}
end
def zaJ (m:Ms):Bool:=fewB m.l 70&&decide (m.d.size<=5000)
theorem zat (va:Option Addr) (vn vc:Nat) (m:Ms) (w:World) (hv:zae w (.slice va vn vc) m.l):
 Calls Try.prog 7 #[zag (.slice va vn vc) m] w fun e w'=>e= .returned (.bool (zaJ m))/\Below w.heap.size w w':=by
 have HA:=zid ((Below.refl w.heap.size w).alloc (Nat.le_refl _) (.cells #[.int .i64 m.k,.int .i64 m.f,.int .i64 m.t,.int .i64 m.i,.int .i64 m.p,.int .i64 m.q,.int .i64 m.a,.int .i64 m.wd,.int .i64 m.h,.int .i64 m.wt,.int .i64 m.x,.int .i64 m.z,.int .u32 m.s,.string m.d,.slice va vn vc] 25));have FW:=few_any (.slice va vn vc) m.l 70 _ (by decide) (zab hv HA.out);obtain ⟨x0,x1,x2,x3,x4,x5,x6,x7,x8,x9,x10,x11,x12,x13,x14⟩:=zaa (heap_alloc_new w (.cells #[.int .i64 m.k,.int .i64 m.f,.int .i64 m.t,.int .i64 m.i,.int .i64 m.p,.int .i64 m.q,.int .i64 m.a,.int .i64 m.wd,.int .i64 m.h,.int .i64 m.wt,.int .i64 m.x,.int .i64 m.z,.int .u32 m.s,.string m.d,.slice va vn vc] 25));unfold zaJ;unfold zag;clear hv
 rcases hb:fewB m.l 70 with _ | _
 · rw [hb] at FW
   replace FW:=zid FW
   clear hb;rw [Bool.false_and]
   go_enter Try.func7,Try.ntmps7
   go_wp2_with fail;refine FW.out.mono ?_;rintro e w1 ⟨rfl,rfl⟩;go_wp2_with fail;go_ret;exact ⟨rfl,HA.out⟩
 · rw [hb] at FW
   replace FW:=zid FW
   clear hb;rw [Bool.true_and];have e:decide (m.d.size<=5000)=decide ((m.d.size:Int)<=5000):=decide_eq_decide.2 (by omega);rw [e];clear e
   go_enter Try.func7,Try.ntmps7
   go_wp2_with fail;refine FW.out.mono ?_;rintro e w1 ⟨rfl,rfl⟩;go_wp2_with fail;go_ret;exact ⟨rfl,HA.out⟩
end Wr
end Go.Proofs.Ytmkdcpjlhphhiaa

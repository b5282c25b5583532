/-
  Parts of what the laws of this seat stand on:ManProg,RoTold.
-/
import Derived.Test.YtooipogbmfkeeaaGreatQr1
import Derived.Test.YtooipogbmfkeeaaGreatQr14
import Derived.Test.YtooipogbmfkeeaaGreatQr15
import Derived.Test.YtooipogbmfkeeaaGreatQr36
import Derived.Test.YtooipogbmfkeeaaGreatQr37
import Derived.Test.YtooipogbmfkeeaaGreatQr39
import Derived.Test.YtooipogbmfkeeaaGreatQr40
set_option maxRecDepth 100000
set_option maxHeartbeats 6400000
namespace Go.Proofs.YtooipogbmfkeeaaGreat
namespace Mfs
open Go.RowKit Qm
theorem zlI (s:ByteArray) (er:Nat) (w:World) (hs:s.size<=140737488351232) (he:Fr.nx s.data.toList=(er,0,[])) (h3:er=2\/er=3\/er=4):
 Calls Tryz.prog 50 #[.string s] w (zaD w (getM s.data.toList)):=by
 rw [zi9 he (by omega)];have C:=fun W:World=>zeG s 0 W hs;rw [show (0:Int)=((0:Nat):Int) from rfl,zcC,zaX (k:=0) he (by omega)] at C;replace C:=zid C;have HA:=zid ((Below.refl w.heap.size w).alloc (Nat.le_refl _) (.cells #[.int .i64 0,.slice none 0 0,.int .i64 0,.int .u32 0] 65));have G0:=zid (heap_alloc_new w (.cells #[.int .i64 0,.slice none 0 0,.int .i64 0,.int .u32 0] 65));clear he
 rcases h3 with rfl | rfl | rfl
 all_goals
  go_enter Tryz.func50,Tryz.ntmps50
  go_wp2_with fail;refine (C.out _).mono ?_;rintro e w1 ⟨rfl,b1⟩;have G1:=zid ((b1.block w.heap.size (Array.getElem?_eq_some_iff.1 G0.out).1).trans G0.out);have B1:=zid (HA.out.trans (b1.mono HA.out.size));obtain ⟨z0,z1,z2,z3⟩:=cells4 G1.out;obtain ⟨f0,f1,f2,f3⟩:=zbm G1.out;clear b1;go_wp2_with fail;refine bodyPost_ret (v:= .tuple #[.agg #[.int .i64 0,.slice none 0 0,.int .i64 0,.int .u32 0],.int .i64 _]) (by simp [results,Tryz.results50,go_sem,z0,z1,z2,z3];rfl) rfl ?_;exact zaD.mk0 _ (zbA B1.out (Nat.le_refl _) _ _ _ _)
theorem manR_b (l:List UInt8) (b:Bool):MnB (manR l b).1:=by
 unfold manR;dsimp only
 exact ⟨by have:=zdr l b;exact ⟨by dsimp only;omega,this.2.1⟩,by
  have:=zdr (zbD (numR l b).2.1 (numR l b).2.2).2.1 (zbD (numR l b).2.1 (numR l b).2.2).2.2
  exact ⟨by dsimp only;omega,this.2.1⟩,sumR_in _ _⟩
theorem zj1 (s:ByteArray) (j:Nat) (b:List UInt8) (w:World) (hs:s.size<=140737488351232) (he:Fr.nx s.data.toList=(0,j,b)) (hbm:Fr.May b.length):
 Calls Tryz.prog 50 #[.string s] w (zaD w (getM s.data.toList)):=by
 have C:=fun W:World=>zeG s 0 W hs;rw [show (0:Int)=((0:Nat):Int) from rfl,zcC,zbY (k:=0) he,Nat.zero_add] at C;replace C:=zid C;have HA:=zid ((Below.refl w.heap.size w).alloc (Nat.le_refl _) (.cells #[.int .i64 0,.slice none 0 0,.int .i64 0,.int .u32 0] 65));have G0:=zid (heap_alloc_new w (.cells #[.int .i64 0,.slice none 0 0,.int .i64 0,.int .u32 0] 65));have HE:=zid he;have MR:=zid fun (r:Nat) (W:World) (h:RD r b false W)=>zgZ r b false W h (by have:=hbm.2;omega);obtain ⟨BS,hBS⟩:∃BS:ByteArray,(⟨b.toArray⟩:ByteArray)=BS:=⟨_,rfl⟩;rw [hBS] at C;have HBS:=zid hBS;clear he hbm hBS
 go_enter Tryz.func50,Tryz.ntmps50
 go_wp2_with fail;refine (C.out _).mono ?_;rintro e w1 ⟨rfl,b1⟩;have G1:=zid ((b1.block w.heap.size (Array.getElem?_eq_some_iff.1 G0.out).1).trans G0.out);have B1:=zid (HA.out.trans (b1.mono HA.out.size));have hs1:=B1.out.size;clear b1 G0 HA;go_wp2_with fail
 have R0:RD w1.heap.size b false (w1.alloc (.cells #[.string BS,.bool false] 134)):=by
  rw [<-HBS.out];exact heap_alloc_new w1 _
 refine (MR.out w1.heap.size _ R0).mono ?_;obtain ⟨m,hm⟩:∃m,(manR b false).1=m:=⟨_,rfl⟩;obtain ⟨l4,hl4⟩:∃l4,(manR b false).2.1=l4:=⟨_,rfl⟩;obtain ⟨b4,hb4⟩:∃b4,(manR b false).2.2=b4:=⟨_,rfl⟩;have HNO:=zid fun (h:b4=true\/l4≠[]\/j<s.data.toList.length\/ ¬Ok m)=>getM_no2 HE.out (by rw [hm,hl4,hb4];exact h);have HYE:=zid fun (h1:b4=false) (h2:l4=[]) (h3:¬j<s.data.toList.length) (h4:Ok m)=>zlG HE.out (by rw [hb4];exact h1) (by rw [hl4];exact h2) h3 (by rw [hm];exact h4);have HMB:=zid (show MnB m by rw [<-hm];exact manR_b b false);rw [hm] at HYE;rw [hm,hl4,hb4];clear hm hl4 hb4;rintro e w3 ⟨sa,sn,sc,rfl,hi3,ho3,h3,g3⟩
 have B3:=zid ((B1.out.alloc hs1 (.cells #[.string BS,.bool false] 134)).grown g3 (by simp;omega) (fun k hk=>by injection hk with hk;omega))
 have HI3:=zid hi3;have H3:=zid h3;have HOW:=zid (show ∀q,(Value.slice sa sn sc).ownBlock=some q->w.heap.size<q from fun q hq=>by have:=ho3 q hq;simp at this;have:=(Array.getElem?_eq_some_iff.1 G1.out).1;omega);have hlt:w.heap.size<w1.heap.size:=(Array.getElem?_eq_some_iff.1 G1.out).1
 have G3:=zid (((g3.block w.heap.size (by simp;omega) (fun e=>by injection e with e;omega)).trans (Below.heap_alloc w1 _ _ hlt)).trans G1.out)
 have hs3:=g3.size;clear hi3 ho3 h3 g3 R0;unfold mnVal;have A4:=zid ((Below.refl w3.heap.size w3).alloc (Nat.le_refl _) (.cells #[.int .i64 m.v,.slice sa sn sc,.int .i64 m.z,.int .u32 m.c] 65));have G4:=zid (heap_alloc_new w3 (.cells #[.int .i64 m.v,.slice sa sn sc,.int .i64 m.z,.int .u32 m.c] 65));have H4:=zid (H3.out.keep A4.out);have RS4:=zid ((A4.out.block w.heap.size (Array.getElem?_eq_some_iff.1 G3.out).1).trans G3.out);have HI4:=zid (HI3.out.keep A4.out);have B4:=zid (B3.out.trans (A4.out.mono B3.out.size));obtain ⟨r0,r1,r2,r3⟩:=cells4 G4.out;obtain ⟨d0,d1,e0,e1⟩:=H4.out.cells;obtain ⟨z0,z1,z2,z3⟩:=cells4 RS4.out;obtain ⟨f0,f1,f2,f3⟩:=zbm RS4.out
 have hne:w1.heap.size≠w3.heap.size:=by have:=H3.out.lt;omega
 have HZ:=zid (show s.data.toList.length=s.size from rfl)
 cases b4 with
 | true=>
  have HF:=zid (HNO.out (.inl rfl));go_wp2_with fail;refine bodyPost_ret (v:= .tuple #[.agg #[.int .i64 0,.slice none 0 0,.int .i64 0,.int .u32 0],.int .i64 3]) (by simp [results,Tryz.results50,go_sem,z0,z1,z2,z3]) rfl ?_;rw [HF.out];exact zaD.mk0 3 (zbA B4.out (Nat.le_refl _) _ _ _ _)
 | false=>
  by_cases hl:l4=[]
  case neg=>
   have HF:=zid (HNO.out (.inr (.inl hl)));obtain ⟨X,hX⟩:∃X:ByteArray,(⟨l4.toArray⟩:ByteArray)=X:=⟨_,rfl⟩
   have hq:X.toList.isEmpty=false:=by
    rw [ByteArray.toList_eq, <-hX]
    cases l4 with
    | nil=>exact absurd rfl hl
    | cons x t=>rfl
   rw [hX] at d0;clear hl;go_wp2_with fail;refine bodyPost_ret (v:= .tuple #[.agg #[.int .i64 0,.slice none 0 0,.int .i64 0,.int .u32 0],.int .i64 3]) (by simp [results,Tryz.results50,go_sem,z0,z1,z2,z3]) rfl ?_;rw [HF.out];exact zaD.mk0 3 (zbA B4.out (Nat.le_refl _) _ _ _ _)
  subst hl
  by_cases hj:j<s.size
  · have HF:=zid (HNO.out (.inr (.inr (.inl hj))))
    have hj2:(j:Int)<(s.size:Int):=by omega
    go_wp2_with fail;refine bodyPost_ret (v:= .tuple #[.agg #[.int .i64 0,.slice none 0 0,.int .i64 0,.int .u32 0],.int .i64 3]) (by simp [results,Tryz.results50,go_sem,z0,z1,z2,z3]) rfl ?_;rw [HF.out];exact zaD.mk0 3 (zbA B4.out (Nat.le_refl _) _ _ _ _)
  have hj2:decide ((j:Int)<(s.size:Int))=false:=by simp;omega
  by_cases hok:Ok m
  case neg=>
   have HF:=zid (HNO.out (.inr (.inr (.inr hok))));have RR:=zcB sa sn sc m false _ HI4.out HMB.out ⟨(fun h=>by cases h),fun hk=>absurd hk hok⟩;unfold mnVal at RR;replace RR:=zid RR;clear hok;go_wp2_with fail;refine RR.out.mono ?_;rintro e w5 ⟨rfl,b5⟩;have RS5:=zid ((b5.block w.heap.size (Array.getElem?_eq_some_iff.1 RS4.out).1).trans RS4.out);have B5:=zid (B4.out.trans (b5.mono B4.out.size));clear b5 z0 z1 z2 z3 f0 f1 f2 f3 r0 r1 r2 r3 d0 d1 e0 e1;obtain ⟨z0,z1,z2,z3⟩:=cells4 RS5.out;obtain ⟨f0,f1,f2,f3⟩:=zbm RS5.out;go_wp2_with fail;refine bodyPost_ret (v:= .tuple #[.agg #[.int .i64 0,.slice none 0 0,.int .i64 0,.int .u32 0],.int .i64 3]) (by simp [results,Tryz.results50,go_sem,z0,z1,z2,z3]) rfl ?_;rw [HF.out];exact zaD.mk0 3 (zbA B5.out (Nat.le_refl _) _ _ _ _)
  · have HF:=zid (HYE.out rfl rfl hj hok)
    have RR:=zcB sa sn sc m true _ HI4.out HMB.out ⟨fun _=>hok,fun _=>rfl⟩
    unfold mnVal at RR;replace RR:=zid RR;clear hok;go_wp2_with fail;refine RR.out.mono ?_;rintro e w5 ⟨rfl,b5⟩;have RS5:=zid ((b5.block w.heap.size (Array.getElem?_eq_some_iff.1 RS4.out).1).trans RS4.out);have G5:=zid ((b5.block w3.heap.size (Array.getElem?_eq_some_iff.1 G4.out).1).trans G4.out);have B5:=zid (B4.out.trans (b5.mono B4.out.size));have HI5:=zid (HI4.out.keep b5)
    have hwne:w.heap.size≠w3.heap.size:=by have:=(Array.getElem?_eq_some_iff.1 G3.out).1;omega
    clear b5 z0 z1 z2 z3 f0 f1 f2 f3 r0 r1 r2 r3 d0 d1 e0 e1;obtain ⟨z0,z1,z2,z3⟩:=cells4 RS5.out;obtain ⟨r0,r1,r2,r3⟩:=cells4 G5.out;obtain ⟨f0,f1,f2,f3⟩:=zbm RS5.out;go_wp2_with fail;refine bodyPost_ret (v:= .tuple #[.agg #[.int .i64 m.v,.slice sa sn sc,.int .i64 m.z,.int .u32 m.c],.int .i64 0]) (by simp [results,Tryz.results50,go_sem,z0,z1,z2,z3]) rfl ?_;rw [HF.out];refine ⟨sa,sn,sc,rfl,?_,zbA B5.out (Nat.le_refl _) _ _ _ _⟩
    have hg:w5.grownBy ((((w5.setCell ⟨w.heap.size,0,none⟩ (.int .i64 m.v)).setCell ⟨w.heap.size,1,none⟩ (.slice sa sn sc)).setCell ⟨w.heap.size,2,none⟩ (.int .i64 m.z)).setCell ⟨w.heap.size,3,none⟩ (.int .u32 m.c)) (some w.heap.size):=
     zaE (zaE (zaE (zaP w5 w.heap.size 0 _) (zaP _ w.heap.size 1 _)) (zaP _ w.heap.size 2 _)) (zaP _ w.heap.size 3 _)
    exact zdE HI5.out (fun q hq=>by have:=HOW.out q hq;omega) hg
theorem get10_any (s:ByteArray) (w:World) (hs:s.size<=140737488351232):
 Calls Tryz.prog 50 #[.string s] w (zaD w (getM s.data.toList)):=by
 rcases Fr.nx_cases s.data.toList with ⟨er,h,he⟩ | ⟨j,b,h,_,_,hb,_⟩
 · exact zlI s er w hs h he
 · exact zj1 s j b w hs h hb
end Mfs
namespace Ro
open Go.RowKit So Dsk Rts Sto
theorem zfW (fa:Option Addr) (fn fc:Nat) (D:Dp.Dk) (ma:Option Addr) (mn mc:Nat) (m:Qm.Mn) (w:World) (k:Nat) (hv:IsL FL w (.slice fa fn fc) D.f) (hS:Bd D k) (hk:k<=100000) (hm:IsL Mfs.IL w (.slice ma mn mc) m.l) (hM:Qm.Ok m) (b:Bool) (hb:b=true↔Lg.SnapOk D m):
 Calls Tryz.prog 51 #[zac (.slice fa fn fc) D,Mfs.mnVal ma mn mc m] w fun e w'=>e= .returned (.bool b)/\Below w.heap.size w w':=by
 have hmn:0<mn:=by rw [hm.len.1];exact hM.n0
 have hd0:m.l.getD 0 0=m.l.headD 0:=by cases m.l<;>rfl
 have hat:=hM.at_ 0 hM.n0;unfold Qm.AtOk at hat;have RB:=fun (W:World) (n:ByteArray) (h:IsL FL W (.slice fa fn fc) D.f)=>Dsk.read_any (.slice fa fn fc) D n W h hS.r.2.1 (by have:=hS.n;omega);have HU:=zid hS.u;have HC:=hM.c;have HV:=zid hv;have HM:=zid hm;obtain ⟨g0,g1,gb,gs⟩:=zaR w #[.slice fa fn fc,.int .i64 D.c,.bool D.a,.int .i64 D.l,.bool D.x] #[.int .i64 m.v,.slice ma mn mc,.int .i64 m.z,.int .u32 m.c] 24 65;have GB:=zid gb;have G1:=zid g1;have G0:=zid g0;have GS:=zid gs;obtain ⟨d0,d1,d2,d3,d4⟩:=zaa g0;obtain ⟨p0,p1,p2,p3⟩:=Mfs.cells4 g1;obtain ⟨ab,ao,rfl,c0⟩:=Mfs.il_at (hm.keep gb) hmn;rw [hd0] at c0 hat;simp only [Nat.add_zero] at c0;have hSO:Lg.SnapOk D m↔(0<m.l.headD 0->∃L,dat D (⟨(Np.nameL 116 (m.l.headD 0)).toArray⟩:ByteArray)=some L/\(L.length:Int)=m.z/\(Cp.sum 0 L:Int)=m.c):=Iff.rfl;rw [hSO] at hb;obtain ⟨f0,hf0⟩:∃f0,m.l.headD 0=f0:=⟨_,rfl⟩;rw [hf0] at c0 hat hb;have SN:=zid fun W:World=>ziI f0 W (by omega);unfold zac at RB ⊢;unfold Mfs.mnVal;clear hv hS hm hM g0 g1 gb gs hd0 hf0 hSO
 go_enter Tryz.func51,Tryz.ntmps51
 go_upto_region 1 with (fail);generalize World.alloc (World.alloc w _) _=w0 at GB G0 G1 GS d0 d1 d2 d3 d4 p0 p1 p2 p3 c0 ⊢
 have hlt:w.heap.size<w0.heap.size:=by rw [GS.out];omega
 have hlt1:w.heap.size+1<w0.heap.size:=by rw [GS.out];omega
 by_cases hz:f0=0
 case pos=>
  have hbt:b=true:=hb.2 (fun h=>by omega);subst hbt hz;clear hb hat;go_wp2_with fail;go_ret;exact ⟨rfl,GB.out⟩
 case neg=>
 have hz':(f0==0)=false:=by simpa using hz
 have hpos:0<f0:=by omega
 replace RB:=fun W h=>RB W ⟨(Np.nameL 116 f0).toArray⟩ h;have hb2:b=true↔ ∃L,dat D (⟨(Np.nameL 116 f0).toArray⟩:ByteArray)=some L/\(L.length:Int)=m.z/\(Cp.sum 0 L:Int)=m.c:=hb.trans ⟨fun h=>h hpos,fun h _=>h⟩
 obtain ⟨s,er,h2,h3,h4⟩:∃(s:ByteArray) (er:Int),zbj D.f ⟨(Np.nameL 116 f0).toArray⟩= .tuple #[.string s,.int .i64 er]/\(b=true↔er=0/\(s.size:Int)=m.z/\((Cp.sum 0 s.data.toList:Nat):Int)=m.c)/\s.size<=3000000000:=by
  rcases zaJ D ⟨(Np.nameL 116 f0).toArray⟩ with ⟨h1,h2⟩ | ⟨s,h1,h2,h3⟩
  · refine ⟨_,_,h2,?_,by show 0<=_;omega⟩
    rw [h1] at hb2
    exact hb2.trans ⟨fun ⟨L,h,_⟩=>(by cases h),fun ⟨h,_⟩=>(by cases h)⟩
  · refine ⟨s,0,h2,?_,by have:=HU.out;omega⟩
    rw [h1] at hb2
    exact hb2.trans ⟨fun ⟨L,h,h5,h6⟩=>by injection h with h;subst h;exact ⟨rfl,h5,h6⟩,fun ⟨_,h5,h6⟩=>⟨_,rfl,h5,h6⟩⟩
 rw [h2] at RB;replace RB:=zid RB;clear hb hb2 h2 hat hz;go_upto_region 4 with (fail)
 go_cut [6,7] (fun v e wc=>v= .string s/\e= .int .i64 er/\Below w0.heap.size w0 wc)
 case first=>
  go_region_held3 (fun W=>(∀b o,b<w0.heap.size->W.cell? ⟨b,o,none⟩=w0.cell? ⟨b,o,none⟩)/\Below w0.heap.size w0 W) (first | with_reducible assumption | with_reducible exact KW.dr _ | with_reducible exact KW.keep (by assumption) (Below.refl _ _).drew | with_reducible exact KW.keep (by assumption) (by assumption)) (first | (go_at_call 92;refine (SN.out _).mono ?_;rintro e w5 ⟨rfl,q5⟩;have s5:=KW.keep (by assumption) q5) | (go_at_call 22;refine (RB.out _ (HV.out.keep (GB.out.trans ((KW.bel (by assumption)).mono GB.out.size)))).mono ?_;rintro e w5 ⟨rfl,q5⟩;have s5:=KW.keep (by assumption) q5))
  all_goals
   rename_i hh
   have LB:=zid (KW.bel hh);clear hh;go_wp2_with fail;go_meet
   case rel=>exact ⟨rfl,rfl,LB.out⟩
 case rest=>
 obtain ⟨rfl,rfl,bc⟩:=hcut;have WB:=zid (GB.out.trans (bc.mono GB.out.size));obtain ⟨p0,p1,p2,p3⟩:=Mfs.cells4 (hkeep G1.out bc);have hwl:=(Array.getElem?_eq_some_iff.1 (hkeep G1.out bc)).1;clear bc RB SN d0 d1 d2 d3 d4 c0 G0 G1 HV HM hlt hlt1
 by_cases he:er=0
 case neg=>
  have hbf:b=false:=by cases b;rfl;exact absurd (h3.1 rfl).1 he
  have he':(er==0)=false:=by simpa using he
  subst hbf;clear h3;go_upto_region 5 with (fail)
  go_region
  all_goals
   go_wp2_with fail
   go_ret;exact ⟨rfl,WB.out.drew⟩
 case pos=>
 subst he
 by_cases hs:(s.size:Int)=m.z
 case neg=>
  have hbf:b=false:=by cases b;rfl;exact absurd (h3.1 rfl).2.1 hs
  have he':((s.size:Int)==m.z)=false:=by simpa using hs
  subst hbf;clear h3;go_upto_region 5 with (fail)
  go_region
  all_goals
   go_wp2_with fail
   go_ret;exact ⟨rfl,WB.out.drew⟩
 case pos=>
 have he':((s.size:Int)==m.z)=true:=by simpa using hs
 have SUM:=zid (show ∀W:World,Calls Tryz.prog 93 #[.slice (some ⟨W.heap.size,0,none⟩) 1 1] (W.alloc (.cells #[.string s] 9)).drew fun e w'=>e= .returned (.int .u32 (Cp.sum 0 s.data.toList:Nat))/\Below (W.alloc (.cells #[.string s] 9)).drew.heap.size (W.alloc (.cells #[.string s] 9)).drew w' from fun W=>by
  have h:=zhB _ _ _ (zc3.one W.drew s (by unfold maxLen;omega));rw [show cat [s]=s.data.toList by unfold cat;simp] at h
  exact h)
 have hbb:(((Cp.sum 0 s.data.toList:Nat):Int)==m.c)=b:=by
  cases b
  · simp only [beq_eq_false_iff_ne]
    exact fun h=>by have:=h3.2 ⟨rfl,hs,h⟩;cases this
  · simpa using (h3.1 rfl).2.2
 clear h3 hs;generalize Cp.sum 0 s.data.toList=cs at*;go_upto_region 5 with (fail)
 go_region_held3 (fun W=>(∀b o,b<wc.heap.size->W.cell? ⟨b,o,none⟩=wc.cell? ⟨b,o,none⟩)/\Below wc.heap.size wc W) (first | with_reducible assumption | with_reducible exact KW.al (by assumption) | with_reducible exact KW.ad (KW.start _) | with_reducible exact KW.ad (by assumption) | with_reducible exact KW.dr _ | with_reducible exact KW.keep (by assumption) (Below.refl _ _).drew | with_reducible exact KW.keep (by assumption) (by assumption)) (first | (go_at_call 93;refine (SUM.out _).mono ?_;rintro e w5 ⟨rfl,q5⟩;have s5:=KW.keep (by assumption) q5))
 all_goals
  rename_i hh
  have LB:=zid (WB.out.trans ((KW.bel hh).mono WB.out.size));clear hh;go_wp2_with fail;go_ret;exact ⟨rfl,LB.out⟩
def s0:St:=⟨Dp.empty,0,[],0,0,0,0⟩
def zS:Obj:= .cells #[.slice none 0 0,.int .i64 0,.bool false,.int .i64 0,.bool false,.int .i64 0,.slice none 0 0,.int .i64 0,.int .i64 0,.int .i64 0,.int .u32 0] 30
def ToldOut (w:World) (fv:Value) (R:Option St) (e:Ending) (w':World):Prop:=∃a n c a' n' c' S,e= .returned (.tuple #[zag (.slice a n c) (.slice a' n' c') S,.bool R.isSome])/\Below w.heap.size w w'/\∀S',R=some S'->S'=S/\ .slice a n c=fv/\IsL Rts.SL w' (.slice a' n' c') S.g/\∀j,j<w.heap.size->Sep (.slice a' n' c') j
theorem zea {D:Dp.Dk} {l:List Int} {gs:List Rt.Sg} (h:Lg.segA D l=some gs):gs=l.map (Lg.segG D):=by
 unfold Lg.segA at h
 split at h
 · exact (Option.some.inj h).symm
 · cases h
theorem zjp (fa:Option Addr) (fn fc:Nat) (D:Dp.Dk) (s:ByteArray) (w:World) (k:Nat) (hv:IsL FL w (.slice fa fn fc) D.f) (hS:Bd D k) (hk:k<=100000) (hs:s.size<=3000000000):
 Calls Tryz.prog 24 #[zac (.slice fa fn fc) D,.string s] w (ToldOut w (.slice fa fn fc) (Lg.toldT D s.data.toList)):=by
 have GT:=fun W:World=>Mfs.get10_any s W (by omega);have HNO:=fun h=>Lg.told_no (D:=D) (s:=s.data.toList) h;have HGO:=fun h1 h2=>Lg.told_go (D:=D) (s:=s.data.toList) h1 h2;have HOK:=fun h=>Lg.getM_ok (s:=s.data.toList) h;obtain ⟨R,hR⟩:∃R,Lg.toldT D s.data.toList=R:=⟨_,rfl⟩;rw [hR] at HNO HGO ⊢;generalize Qm.getM s.data.toList=M at*;obtain ⟨m,er⟩:=M;dsimp only at HNO HGO HOK;have M0:=((Ms.start (gv:= .slice none 0 0) (lg:=[]) hv (IsL.nil w none 0)).alloc #[.slice fa fn fc,.int .i64 D.c,.bool D.a,.int .i64 D.l,.bool D.x] 24).alloc #[.slice none 0 0,.int .i64 0,.bool false,.int .i64 0,.bool false,.int .i64 0,.slice none 0 0,.int .i64 0,.int .i64 0,.int .i64 0,.int .u32 0] 30;rw [World.size_alloc] at M0;have HM0:=zid M0;have HSN:=zid fun (a:Option Addr) (n c:Nat) (W:World) (b:Bool) (h1:IsL FL W (.slice fa fn fc) D.f) (h2:IsL Mfs.IL W (.slice a n c) m.l) (h3:Qm.Ok m) (h4:b=true↔Lg.SnapOk D m)=>zfW fa fn fc D a n c m W k h1 hS (by omega) h2 h3 b h4
 have HSG:=zid fun (a:Option Addr) (n c:Nat) (W:World) (h1:IsL FL W (.slice fa fn fc) D.f) (h2:IsL Mfs.IL W (.slice a n c) m.l) (h3:Qm.Ok m)=>zeX fa fn fc D a n c m.l W k h1 hS (by omega) h2 (by have:=h3.n1;omega) (fun b hb=>by
  obtain ⟨i,hi,rfl⟩:=List.getElem_of_mem hb;have:=h3.at_ i hi;unfold Qm.AtOk at this;rw [zao hi] at this
  exact ⟨this.1,this.2.1⟩)
 have HDL:∀n,((dat D n).getD []).length<=3000000000:=fun n=>by
  have h4:=hS.u
  rcases zaJ D n with ⟨h,_⟩ | ⟨s,h,_,h5⟩
  · rw [h];exact Nat.zero_le _
  · rw [h]
    show s.size<=_
    omega
 unfold zac at HSN HSG ⊢;unfold Mfs.mnVal at HSN;replace GT:=zid GT;clear hv hS hR M0
 go_enter Tryz.func24,Tryz.ntmps24
 go_upto_region 1 with (fail);obtain ⟨w0,hw0⟩:∃w0,(w.alloc (.cells #[.slice fa fn fc,.int .i64 D.c,.bool D.a,.int .i64 D.l,.bool D.x] 24)).alloc (.cells #[.slice none 0 0,.int .i64 0,.bool false,.int .i64 0,.bool false,.int .i64 0,.slice none 0 0,.int .i64 0,.int .i64 0,.int .i64 0,.int .u32 0] 30)=w0:=⟨_,rfl⟩;rw [hw0] at HM0 ⊢;clear hw0;go_wp2_with fail;refine (GT.out _).mono ?_;rintro e w1 ⟨ma,mn,mc,rfl,hml,b1⟩;dsimp only at hml;have B2:=(zaC w1 (.cells #[.int .i64 m.v,.slice ma mn mc,.int .i64 m.z,.int .u32 m.c] 65));have M2:=zid ((HM0.out.keep b1).keep B2);have G2:=zid (heap_alloc_new w1 (.cells #[.int .i64 m.v,.slice ma mn mc,.int .i64 m.z,.int .u32 m.c] 65));have HML:=zid (hml.keep B2);clear hml b1 B2 HM0 GT;unfold Mfs.mnVal;dsimp only;go_upto_region 2 with (fail);generalize w1.alloc _=w2 at M2 G2 HML ⊢;generalize w1.heap.size=tm at G2 ⊢;obtain ⟨d0,d1,d2,d3,d4⟩:=zaa (M2.out.at_ (t:=w.heap.size) (mcm mcs));obtain ⟨q0,q1,q2,q3⟩:=Mfs.cells4 G2.out
 by_cases he:er=0
 case neg=>
  have HF:=zid (HNO (.inl he))
  have he':(er != 0)=true:=by simpa using he
  obtain ⟨⟨z0,z1,z2,z3,z4⟩,z5,z6,z7,z8,z9,z10⟩:=zab (M2.out.at_ (t:=w.heap.size+1) mcs);have zf:=zah (M2.out.at_ (t:=w.heap.size+1) mcs);clear HNO HGO HOK HSN HSG HDL;go_wp2_with fail;obtain ⟨Z,hZ,MZ⟩:=M2.out.lay11 (t:=w.heap.size+1) (cs':=[(w.heap.size+1,zS)]) mcs (.slice none 0 0) (.int .i64 0) (.bool false) (.int .i64 0) (.bool false) (.int .i64 0) (.slice none 0 0) (.int .i64 0) (.int .i64 0) (.int .i64 0) (.int .u32 0) (fun p hp=> .inl (List.mem_singleton.1 hp));rw [hZ];obtain ⟨⟨x0,x1,x2,x3,x4⟩,x5,x6,x7,x8,x9,x10⟩:=zab (MZ.at_ mcs);refine bodyPost_ret (v:= .tuple #[zag (.slice none 0 0) (.slice none 0 0) s0,.bool false]) (by unfold zag s0 Dp.empty;simp [results,Tryz.results24,go_sem,x0,x1,x2,x3,x4,x5,x6,x7,x8,x9,x10]) rfl ?_;rw [HF.out];exact ⟨_,_,_,_,_,_,s0,rfl,MZ.w,fun _ h=>(by cases h)⟩
 case pos=>
 subst he;have hok:=HOK rfl;have HOKM:=zid hok
 by_cases hsn:Lg.SnapOk D m
 case neg=>
  have HF:=zid (HNO (.inr hsn));have HH:=zid (show (false=true↔Lg.SnapOk D m) from ⟨fun h=>(by cases h),fun h=>absurd h hsn⟩);clear HNO HGO HOK HSG hok hsn HDL;go_wp2_with fail;refine (HSN.out _ _ _ _ false (M2.out.fl mcs) HML.out HOKM.out HH.out).mono ?_;rintro e w3 ⟨rfl,b3⟩;have M3:=zid (M2.out.keep b3);obtain ⟨⟨z0,z1,z2,z3,z4⟩,z5,z6,z7,z8,z9,z10⟩:=zab (M3.out.at_ (t:=w.heap.size+1) mcs);have zf:=zah (M3.out.at_ (t:=w.heap.size+1) mcs);clear b3;go_wp2_with fail;obtain ⟨Z,hZ,MZ⟩:=M3.out.lay11 (t:=w.heap.size+1) (cs':=[(w.heap.size+1,zS)]) mcs (.slice none 0 0) (.int .i64 0) (.bool false) (.int .i64 0) (.bool false) (.int .i64 0) (.slice none 0 0) (.int .i64 0) (.int .i64 0) (.int .i64 0) (.int .u32 0) (fun p hp=> .inl (List.mem_singleton.1 hp));rw [hZ];obtain ⟨⟨x0,x1,x2,x3,x4⟩,x5,x6,x7,x8,x9,x10⟩:=zab (MZ.at_ mcs);refine bodyPost_ret (v:= .tuple #[zag (.slice none 0 0) (.slice none 0 0) s0,.bool false]) (by unfold zag s0 Dp.empty;simp [results,Tryz.results24,go_sem,x0,x1,x2,x3,x4,x5,x6,x7,x8,x9,x10]) rfl ?_;rw [HF.out];exact ⟨_,_,_,_,_,_,s0,rfl,MZ.w,fun _ h=>(by cases h)⟩
 case pos=>
 have HRR:=zid (HGO rfl hsn);have HH:=zid hsn;have HMB:=zid (And.intro hok.n0 hok.n1);have hla:=hok.at_ (m.l.length-1) (by have:=hok.n0;omega);unfold Qm.AtOk at hla;have HLA:=zid (And.intro hla.1 hla.2.1);have HSA:=zid fun gs (h:Lg.segA D m.l=some gs)=>zea h;have HLM:=zid (Lg.last_map D (l:=m.l) (List.length_pos_iff.1 hok.n0));have HSZ:=zid (show ((Gp.full ((dat D (segN (m.l.getD (m.l.length-1) 0))).getD []) (m.l.getD (m.l.length-1) 0)).1.length)<=3000000000 from Nat.le_trans (zcG _ _).1 (HDL _));clear HNO HGO HOK hok hsn hla HDL;go_wp2_with fail;refine (HSN.out _ _ _ _ true (M2.out.fl mcs) HML.out HOKM.out ⟨fun _=>HH.out,fun _=>rfl⟩).mono ?_;rintro e w3 ⟨rfl,b3⟩;have M3:=zid (M2.out.keep b3);have G3:=zid (hkeep G2.out b3);have HM3:=zid (HML.out.keep b3);clear b3 M2 G2 HML HSN d0 d1 d2 d3 d4 q0 q1 q2 q3;obtain ⟨d0,d1,d2,d3,d4⟩:=zaa (M3.out.at_ (t:=w.heap.size) (mcm mcs));obtain ⟨q0,q1,q2,q3⟩:=Mfs.cells4 G3.out;go_wp2_with fail;refine (HSG.out _ _ _ _ (M3.out.fl mcs) HM3.out HOKM.out).mono ?_
 rcases hsa:Lg.segA D m.l with _ | gs
 case none=>
  rintro e w4 ⟨ga,gn,gc,rfl,_,_,b4⟩;have HF:=zid (HRR.out.trans (show _=none by rw [hsa];rfl));have M4:=zid (M3.out.keep b4);obtain ⟨⟨z0,z1,z2,z3,z4⟩,z5,z6,z7,z8,z9,z10⟩:=zab (M4.out.at_ (t:=w.heap.size+1) mcs);have zf:=zah (M4.out.at_ (t:=w.heap.size+1) mcs);clear b4 HRR hsa HSA HSG HLM;go_wp2_with fail;obtain ⟨Z,hZ,MZ⟩:=M4.out.lay11 (t:=w.heap.size+1) (cs':=[(w.heap.size+1,zS)]) mcs (.slice none 0 0) (.int .i64 0) (.bool false) (.int .i64 0) (.bool false) (.int .i64 0) (.slice none 0 0) (.int .i64 0) (.int .i64 0) (.int .i64 0) (.int .u32 0) (fun p hp=> .inl (List.mem_singleton.1 hp));rw [hZ];obtain ⟨⟨x0,x1,x2,x3,x4⟩,x5,x6,x7,x8,x9,x10⟩:=zab (MZ.at_ mcs);refine bodyPost_ret (v:= .tuple #[zag (.slice none 0 0) (.slice none 0 0) s0,.bool false]) (by unfold zag s0 Dp.empty;simp [results,Tryz.results24,go_sem,x0,x1,x2,x3,x4,x5,x6,x7,x8,x9,x10]) rfl ?_;rw [HF.out];exact ⟨_,_,_,_,_,_,s0,rfl,MZ.w,fun _ h=>(by cases h)⟩
 case some=>
 rintro e w4 ⟨ga,gn,gc,rfl,hgl,hgs,b4⟩;rw [Option.getD_some] at hgl;obtain rfl:=HSA.out gs hsa
 have hgn:gn=m.l.length:=by rw [hgl.len.1,List.length_map]
 obtain ⟨m1,hm1⟩:∃m1,gn=m1+1:=⟨gn-1,by have:=HMB.out.1;omega⟩;have hlm:=HLM.out;rw [List.length_map, <-hgn,hm1,Nat.add_sub_cancel] at hlm
 have hln:m.l.length-1=m1:=by omega
 have hz:=HSZ.out;have ha:=HLA.out;rw [hln] at hz ha;subst hm1
 have HF:=zid (HRR.out.trans (show _=some (⟨D,m.v,m.l.map (Lg.segG D),(Lg.segG D (m.l.getD m1 0)).b+(Lg.segG D (m.l.getD m1 0)).n,(Lg.segG D (m.l.getD m1 0)).b+(Lg.segG D (m.l.getD m1 0)).n,m.z,m.c⟩:St) by
  rw [hsa,Option.map_some,HLM.out,hln]))
 obtain ⟨sb,so,rfl,c0,c1,c2⟩:=zck hgl (Nat.lt_succ_self m1);rw [hlm] at c0 c1 c2;have hgb:(Lg.segG D (m.l.getD m1 0)).b=m.l.getD m1 0:=rfl;have hgnn:(Lg.segG D (m.l.getD m1 0)).n=((Gp.full ((dat D (segN (m.l.getD m1 0))).getD []) (m.l.getD m1 0)).1.length:Nat):=rfl;rw [<-hgb] at ha
 have hn3:0<=(Lg.segG D (m.l.getD m1 0)).n/\(Lg.segG D (m.l.getD m1 0)).n<=3000000000:=by rw [hgnn];omega
 clear hgb hgnn hz hlm;generalize Lg.segG D (m.l.getD m1 0)=g at*;have hw1:IntKind.i64.wrap (g.b+g.n)=g.b+g.n:=IntWalk.i64_in _ ⟨by omega,by omega⟩
 have hmw:IntKind.i64.wrap (((m1+1:Nat):Int)-1)=(m1:Int):=by
  rw [show ((m1+1:Nat):Int)-1=(m1:Int) from by omega];exact IntWalk.i64_in _ ⟨by omega,by have:=HMB.out.2;omega⟩
 have hmw2:IntKind.i64.wrap (m1:Int)=(m1:Int):=IntWalk.i64_in _ ⟨by omega,by have:=HMB.out.2;omega⟩;have B5:=zaC w4 (.cells #[.int .i64 g.b,.int .i64 g.n,.int .i64 g.z] 75);have M5:=zid ((M3.out.fresh b4 hgl hgs).keep B5);have G5:=hkeep (hkeep G3.out b4) B5;have HSEP:=zid (show ∀j,j<w.heap.size->Sep (.slice (some ⟨sb,so,none⟩) (m1+1) gc) j from fun j hj=>hgs j (Nat.lt_of_lt_of_le hj M3.out.le));have E5:=heap_alloc_new w4 (.cells #[.int .i64 g.b,.int .i64 g.n,.int .i64 g.z] 75);have G5:=zid G5;have E5:=zid E5;clear b4 hgl hgs hsa HRR HSA HLM HLA HSZ hgn hln d0 d1 d2 d3 d4 q0 q1 q2 q3 B5 M3 G3 HM3 HSG HOKM;generalize m.l.map (Lg.segG D)=gs at*;go_upto_region 8 with (fail);generalize w4.alloc _=w5 at M5 G5 E5 ⊢;generalize w4.heap.size=tg at E5 ⊢;obtain ⟨d0,d1,d2,d3,d4⟩:=zaa (M5.out.at_ (t:=w.heap.size) (mcm mcs));obtain ⟨q0,q1,q2,q3⟩:=Mfs.cells4 G5.out;obtain ⟨y0,y1,y2⟩:=Dsk.cells3 E5.out;obtain ⟨⟨z0,z1,z2,z3,z4⟩,z5,z6,z7,z8,z9,z10⟩:=zab (M5.out.at_ (t:=w.heap.size+1) mcs);have zf:=zah (M5.out.at_ (t:=w.heap.size+1) mcs);clear c0 c1 c2 hmw hmw2;go_wp2_with fail;obtain ⟨Z,hZ,MZ⟩:=M5.out.lay11 (t:=w.heap.size+1) (cs':=[(w.heap.size+1,sC (.slice fa fn fc) (.slice (some ⟨sb,so,none⟩) (m1+1) gc) ⟨D,m.v,gs,g.b+g.n,g.b+g.n,m.z,m.c⟩)]) mcs (.slice fa fn fc) (.int .i64 D.c) (.bool D.a) (.int .i64 D.l) (.bool D.x) (.int .i64 m.v) (.slice (some ⟨sb,so,none⟩) (m1+1) gc) (.int .i64 (g.b+g.n)) (.int .i64 (g.b+g.n)) (.int .i64 m.z) (.int .u32 m.c) (fun p hp=> .inl (List.mem_singleton.1 hp));rw [hZ];obtain ⟨⟨x0,x1,x2,x3,x4⟩,x5,x6,x7,x8,x9,x10⟩:=zab (MZ.at_ mcs);refine bodyPost_ret (v:= .tuple #[zag (.slice fa fn fc) (.slice (some ⟨sb,so,none⟩) (m1+1) gc) ⟨D,m.v,gs,g.b+g.n,g.b+g.n,m.z,m.c⟩,.bool true]) (by unfold zag;simp [results,Tryz.results24,go_sem,x0,x1,x2,x3,x4,x5,x6,x7,x8,x9,x10]) rfl ?_;rw [HF.out];exact ⟨fa,fn,fc,some ⟨sb,so,none⟩,m1+1,gc,_,rfl,MZ.w,fun S' h=>⟨(Option.some.inj h).symm,rfl,MZ.sl mcs,HSEP.out⟩⟩
end Ro
end Go.Proofs.YtooipogbmfkeeaaGreat

/-
  Parts of what the laws of this seat stand on:RoRop.
-/
import Derived.Test.YtgmppfpllogdcaaGreatBi1
import Derived.Test.YtgmppfpllogdcaaGreatBi48
set_option maxRecDepth 100000
set_option maxHeartbeats 6400000
namespace Go.Proofs.YtgmppfpllogdcaaGreat
namespace Ro
open Go.RowKit So Dsk Rts Sto
def mC (iv:Value) (m:Qm.Mn):Obj:= .cells #[.int .i64 m.v,iv,.int .i64 m.z,.int .u32 m.c] 76
section
variable {w W:World} {fv0:Value} {gs:List (Value×List Rt.Sg)} {cs:List (Nat×Obj)} {t1:Nat}
theorem zdE {D:Dp.Dk} {a:Option Addr} {n c:Nat} (M:Ms w w.heap.size fv0 (.slice none 0 0) cs [(.slice a n c,D.f)] gs W) (ht:(t1,zS)∈cs):
 ∃Z,((((((((((W.setCell ⟨t1,0,none⟩ (.slice a n c)).setCell ⟨t1,1,none⟩ (.int .i64 D.c)).setCell ⟨t1,2,none⟩ (.bool D.a)).setCell ⟨t1,3,none⟩ (.int .i64 D.l)).setCell ⟨t1,4,none⟩ (.bool D.x)).setCell ⟨t1,5,none⟩ (.int .i64 0)).setCell ⟨t1,6,none⟩ (.slice none 0 0)).setCell ⟨t1,7,none⟩ (.int .i64 0)).setCell ⟨t1,8,none⟩ (.int .i64 0)).setCell ⟨t1,9,none⟩ (.int .i64 0)).setCell ⟨t1,10,none⟩ (.int .u32 0)=Z/\Z.heap[t1]?=some (sC (.slice a n c) (.slice none 0 0) (Lg.bare D))/\∀e:Int,zdW w fv0 (.slice none 0 0) (Lg.bare D,e) (.returned (.tuple #[zag (.slice a n c) (.slice none 0 0) (Lg.bare D),.int .i64 e])) Z:=by
 obtain ⟨Z,h1,h2⟩:=(M.fresh (Below.refl _ _) (IsL.nil W none 0) (fun _ _=>Sep.nil _ _ _)).lay11 (t:=t1) (cs':=[(t1,sC (.slice a n c) (.slice none 0 0) (Lg.bare D))]) ht (.slice a n c) (.int .i64 D.c) (.bool D.a) (.int .i64 D.l) (.bool D.x) (.int .i64 0) (.slice none 0 0) (.int .i64 0) (.int .i64 0) (.int .i64 0) (.int .u32 0) (fun p hp=> .inl (List.mem_singleton.1 hp));exact ⟨Z,h1,h2.at_ mcs,fun e=>⟨_,_,_,_,_,_,rfl,h2.sts (T:=Lg.bare D) mcs mcs⟩⟩
end
theorem ropen14_any (fa:Option Addr) (fn fc:Nat) (D:Dp.Dk) (w:World) (k:Nat) (hv:IsL FL w (.slice fa fn fc) D.f) (hS:Bd D k) (hk:k<=10000):
 Calls Tryz.prog 20 #[zac (.slice fa fn fc) D] w (zdW w (.slice fa fn fc) (.slice none 0 0) (Lg.openT D)):=by
 obtain ⟨i0,hi0,hz0,hz1,hz2⟩:=info_parts zlj;have C0:=zid (Cw.start (w:=w) hv #[.slice none 0 0,.int .i64 0,.bool false,.int .i64 0,.bool false,.int .i64 0,.slice none 0 0,.int .i64 0,.int .i64 0,.int .i64 0,.int .u32 0] 31);have RDL:=fun (n:ByteArray) (W:World) (h:IsL FL W (.slice fa fn fc) D.f)=>Dsk.rread_any (.slice fa fn fc) D n W h;have RB:=RDL nm;have BG:=fun (W:World) (h:IsL FL W (.slice fa fn fc) D.f)=>zgm fa fn fc D W k h hS hk;have HR:=Lg.openT_eq D;have RG:=fun (m:Qm.Mn) (ia:Option Addr) (ln ic:Nat) (W:World) (h:IsL FL W (.slice fa fn fc) D.f) (h2:IsL Mfs.IL W (.slice ia ln ic) m.l) (h3:Qm.Ok m)=>zef fa fn fc D ia ln ic m W k h hS (by omega) h2 h3;have SW:=fun (ua:Option Addr) (un uc:Nat) (U:List ByteArray) (W:World) (h:IsL FL W (.slice fa fn fc) D.f) (h2:IsL Dsk.SL W (.slice ua un uc) U) (h3:un<=10000)=>zdN fa fn fc D ua un uc U W k h hS hk h2 h3;have HBD:=zid hS;have hSu:=hS.u;obtain ⟨R,hRR⟩:∃R,Lg.openT D=R:=⟨_,rfl⟩;rw [hRR] at HR ⊢;unfold zac at BG RB RDL RG SW ⊢;unfold Mfs.mnVal at RG;replace BG:=zid BG;replace RG:=zid RG;replace SW:=zid SW;replace RDL:=zid RDL;have HU:=zid hSu;have RC:=zbx D nm;replace RB:=zid RB;clear hv hS hRR hSu
 go_enter Tryz.func20,Tryz.ntmps20
 go_upto_region 1 with (fail);obtain ⟨w0,hw0⟩:∃w0,(w.alloc (.cells #[.slice fa fn fc,.int .i64 D.c,.bool D.a,.int .i64 D.l,.bool D.x] 27)).alloc (.cells #[.slice none 0 0,.int .i64 0,.bool false,.int .i64 0,.bool false,.int .i64 0,.slice none 0 0,.int .i64 0,.int .i64 0,.int .i64 0,.int .u32 0] 31)=w0:=⟨_,rfl⟩;unfold dC at C0;rw [hw0] at C0 ⊢;have C0:=zid (show Cw w (.slice fa fn fc) w.heap.size (.slice fa fn fc) D (w.heap.size+1) zS [] w0 from C0.out);clear hw0;obtain ⟨d0,d1,d2,d3,d4⟩:=zaa C0.out.d
 by_cases hx:D.x=true
 case pos=>
  have HF:=zid (HR.trans (if_pos hx));obtain ⟨⟨z0,z1,z2,z3,z4⟩,z5,z6,z7,z8,z9,z10⟩:=zab C0.out.r;have zf:=zaf C0.out.r;clear HR BG RB RDL RG SW HBD;rw [hx] at d4;go_wp2_with fail;obtain ⟨Y,hY,hr,hA⟩:=C0.out.bare;rw [hx] at hY;rw [hY];obtain ⟨⟨x0,x1,x2,x3,x4⟩,x5,x6,x7,x8,x9,x10⟩:=zab hr;refine bodyPost_ret (v:= .tuple #[zag (.slice fa fn fc) (.slice none 0 0) (Lg.bare D),.int .i64 10]) (by unfold zag Lg.bare;simp [results,Tryz.results20,go_sem,x0,x1,x2,x3,x4,x5,x6,x7,x8,x9,x10];simp [Lg.bare]) rfl ?_;rw [HF.out];exact hA 10
 case neg=>
 have hxf:D.x=false:=by simpa using hx
 have HRH:=zid (HR.trans (if_neg hx));clear HR hx;go_upto_region 3 with (fail);clear hxf;have HR:=HRH.out;clear HRH
 rcases RC with ⟨h1,h2⟩ | ⟨s,h1,h2,h3⟩
 case inl=>
  have RB:=RB.out;rw [h2] at RB;unfold nm at RB;replace RB:=zid RB;rw [h1] at HR;have HF:=zid HR;obtain ⟨⟨T,E⟩,hT⟩:∃R,Lg.freshT D=R:=⟨_,rfl⟩;have BG:=BG.out;dsimp only at HF;rw [hT] at HF BG;replace BG:=zid BG;clear HR h1 h2 hT RDL RG SW HU HBD;go_wp2_with fail;refine (RB.out _ C0.out.f).mono ?_;rintro e w1 ⟨rfl,b1⟩;have C1:=zid (C0.out.keep b1);clear b1 d0 d1 d2 d3 d4 C0 RB;obtain ⟨d0,d1,d2,d3,d4⟩:=zaa C1.out.d;go_wp2_with fail;refine (BG.out _ C1.out.f).mono ?_;rintro e w5 ⟨a5,n5,c5,a6,n6,c6,rfl,ks⟩;obtain ⟨⟨z0,z1,z2,z3,z4⟩,z5,z6,z7,z8,z9,z10⟩:=zab (hkeep C1.out.r ks.w);have zf:=zaf (hkeep C1.out.r ks.w);have LY:=zid (C1.out.put ks);clear ks d0 d1 d2 d3 d4 BG;unfold zag;go_wp2_with fail;obtain ⟨Y,hY,hr,hA⟩:=LY.out;rw [hY];obtain ⟨⟨x0,x1,x2,x3,x4⟩,x5,x6,x7,x8,x9,x10⟩:=zab hr;refine bodyPost_ret (v:= .tuple #[zag (.slice a5 n5 c5) (.slice a6 n6 c6) T,.int .i64 E]) (by unfold zag;simp [results,Tryz.results20,go_sem,x0,x1,x2,x3,x4,x5,x6,x7,x8,x9,x10]) rfl ?_;rw [HF.out];exact hA E
 case inr=>
 have RB:=RB.out;rw [h2] at RB;unfold nm at RB;replace RB:=zid RB;rw [h1] at HR;dsimp only at HR
 have hs3:s.size<=30000000:=by have:=HU.out;omega
 have GT:=fun W:World=>Mfs.rget10_any s W (by omega)
 have HNO:=fun (h:Lg.toldT D s.data.toList=none)=>HR.trans (show (match Lg.toldT D s.data.toList with | none=>(Lg.bare D,3) | some S=>if (Lg.settT S).2≠0 then (Lg.bare (Lg.settT S).1,(Lg.settT S).2) else ({S with d:=(Lg.settT S).1},0))=(Lg.bare D,3) by rw [h])
 have HYE:=fun (S:St) (h:Lg.toldT D s.data.toList=some S)=>HR.trans (show (match Lg.toldT D s.data.toList with | none=>(Lg.bare D,3) | some S=>if (Lg.settT S).2≠0 then (Lg.bare (Lg.settT S).1,(Lg.settT S).2) else ({S with d:=(Lg.settT S).1},0))=(if (Lg.settT S).2≠0 then (Lg.bare (Lg.settT S).1,(Lg.settT S).2) else ({S with d:=(Lg.settT S).1},0)) by rw [h])
 have HTN:=fun h=>Lg.told_no (D:=D) (s:=s.data.toList) h;have HGO:=fun h1 h2=>Lg.told_go (D:=D) (s:=s.data.toList) h1 h2;have HOK:=fun h=>Lg.getM_ok (s:=s.data.toList) h;generalize Lg.toldT D s.data.toList=TD at*;generalize Qm.getM s.data.toList=M at*;obtain ⟨m,er⟩:=M;dsimp only at HTN HGO HOK;replace GT:=zid GT;replace HNO:=zid HNO;replace HYE:=zid HYE;replace HTN:=zid HTN;replace HGO:=zid HGO;clear h1 h2 h3 BG hs3 HR;go_wp2_with fail;refine (RB.out _ C0.out.f).mono ?_;rintro e w1 ⟨rfl,b1⟩;have C1:=zid (C0.out.keep b1);clear b1 d0 d1 d2 d3 d4 C0 RB;go_wp2_with fail;refine (GT.out _).mono ?_;rintro e w2 ⟨ia,ln,ic,rfl,hml,b2⟩;dsimp only at hml;have M3:=zid ((C1.out.2.2.keep b2).alloc #[.int .i64 m.v,.slice ia ln ic,.int .i64 m.z,.int .u32 m.c] 76);have HI3:=zid (hml.keep (zbI w2 (.cells #[.int .i64 m.v,.slice ia ln ic,.int .i64 m.z,.int .u32 m.c] 76)));have hlt:w.heap.size+1<w2.heap.size:=Nat.lt_of_lt_of_le C1.out.rlt b2.size;clear hml b2 C1 GT;unfold Mfs.mnVal;dsimp only;go_upto_region 7 with (fail);generalize w2.alloc _=w3 at M3 HI3 ⊢;generalize w2.heap.size=tm at M3 hlt ⊢
 by_cases he:er=0
 case neg=>
  have HF:=zid (HNO.out (HTN.out (.inl he)))
  have he':(er != 0)=true:=by simpa using he
  obtain ⟨d0,d1,d2,d3,d4⟩:=zaa (M3.out.at_ (t:=w.heap.size) (mcm mcs));obtain ⟨⟨z0,z1,z2,z3,z4⟩,z5,z6,z7,z8,z9,z10⟩:=zab (M3.out.at_ (t:=w.heap.size+1) (mcm (mcm mcs)));have zf:=zaf (M3.out.at_ (t:=w.heap.size+1) (mcm (mcm mcs)));clear HNO HYE HTN HGO HOK RDL RG SW HBD;go_wp2_with fail;obtain ⟨Y,hY,hr,hA⟩:=zdE M3.out (t1:=w.heap.size+1) (mcm (mcm mcs));rw [hY];obtain ⟨⟨x0,x1,x2,x3,x4⟩,x5,x6,x7,x8,x9,x10⟩:=zab hr;refine bodyPost_ret (v:= .tuple #[zag (.slice fa fn fc) (.slice none 0 0) (Lg.bare D),.int .i64 3]) (by unfold zag Lg.bare;simp [results,Tryz.results20,go_sem,x0,x1,x2,x3,x4,x5,x6,x7,x8,x9,x10];simp [Lg.bare]) rfl ?_;rw [HF.out];exact hA 3
 case pos=>
 subst he;have hok:=HOK rfl;have HOKM:=zid hok;have HGO2:=zid fun (h:Lg.SnapOk D m)=>HGO.out rfl h;have hln:=HI3.out.len.1
 have hl0:0<ln:=by rw [hln];exact hok.n0
 have hat:=hok.at_ 0 hok.n0;unfold Qm.AtOk at hat;have HMC:=hok.c
 have hd0:m.l.getD 0 0=m.l.headD 0:=by cases m.l<;>rfl
 rw [hd0] at hat;have HSO:=zid (show Lg.SnapOk D m↔(0<m.l.headD 0->∃L,dat D (⟨(Np.nameL 116 (m.l.headD 0)).toArray⟩:ByteArray)=some L/\(L.length:Int)=m.z/\(Cp.sum 0 L:Int)=m.c) from Iff.rfl);have HUW:=zid (Uw.new M3.out HI3.out ⟨#[109]⟩);clear M3 HI3 hln hok HOK;go_upto_region 10 with (fail);generalize w3.alloc _=w4 at HUW ⊢;generalize w3.heap.size=ub at HUW ⊢;obtain ⟨ab,ao,rfl,c0⟩:=Mfs.il_at HUW.out.i hl0;rw [hd0] at c0;simp only [Nat.add_zero] at c0;obtain ⟨q0,q1,q2,q3⟩:=Mfs.cells4 (HUW.out.m.at_ (t:=tm) mcs);obtain ⟨X,hX⟩:∃X:List ByteArray,(if 0<m.l.headD 0 then [(⟨(Np.nameL 116 (m.l.headD 0)).toArray⟩:ByteArray)] else [])=X:=⟨_,rfl⟩;have HX:=zid hX;obtain ⟨f0,hf0⟩:∃f0,m.l.headD 0=f0:=⟨_,rfl⟩;rw [hf0] at c0 hat HSO hX;have HF0:=zid hf0;have SNP:=zid fun W:World=>zcf f0 W (by omega);have hfi:=Classical.em (0<f0);clear hf0 hd0
 rcases hfi with hfi | hfi
 case' inl=>
  rw [if_pos hfi] at hX;have HFI:=zid hfi;go_wp2_with fail;refine (SNP.out _).mono ?_;rintro e w5 ⟨rfl,b5⟩;have U5:=zid (HUW.out.keep b5);clear b5 HUW c0 q0 q1 q2 q3 SNP;have HOX:=zid (show (w5.alloc (.cells [Value.string ⟨(Np.nameL 116 f0).toArray⟩].toArray 9)).ownsRow w.heap.size 9 1 (.slice (some ⟨ub,0,none⟩) 1 1) 1 (Dsk.SL.vals [(⟨#[109]⟩:ByteArray)]) from U5.out.u.alloc _);have HNEW:=zid (zar w5 w5.heap.size [Value.string ⟨(Np.nameL 116 f0).toArray⟩] 9 rfl);have hle:=U5.out.m.le
  go_upto_region 13 with (at_builtin;refine zbR _ rfl _ _ 40 rfl w.heap.size 9 i0 (.string ByteArray.empty) 1 16 Tryz.underlying40 hi0 hz0 hz1 hz2 rfl (by decide) _ _ _ rfl HOX.out ⟨w5.heap.size,0,none⟩ 1 1 [.string ⟨(Np.nameL 116 f0).toArray⟩] rfl rfl HNEW.out (by simp [Value.oneCell']) (by decide) (by unfold maxLen;omega) (by omega) (by simp;omega) ?_;intro v6 w6 ho6 hg6 hm6)
  have U6:=U5.out.app ⟨(Np.nameL 116 f0).toArray⟩ ho6 hg6 hm6
  obtain ⟨ua,un,uc,rfl⟩:∃a n c,v6= .slice a n c:=by obtain ⟨a,c,h⟩:=own_slice U6.u;exact ⟨a,_,c,h⟩
  have HUa:=zid (show Uw w (.slice fa fn fc) D [(tm,mC (.slice (some ⟨ab,ao,none⟩) ln ic) m),(w.heap.size,dC (.slice fa fn fc) D),(w.heap.size+1,zS)] [] (.slice (some ⟨ab,ao,none⟩) ln ic) m.l (.slice ua un uc) ((⟨#[109]⟩:ByteArray)::X) w6 from by rw [<-hX];exact U6);clear ho6 hg6 hm6 U6 U5 HOX HNEW hle
  obtain ⟨s2,er2,hr2,hs2,hb2⟩:∃(s:ByteArray) (er:Int),zby D.f ⟨(Np.nameL 116 f0).toArray⟩= .tuple #[.string s,.int .i64 er]/\(Lg.SnapOk D m↔er=0/\(s.size:Int)=m.z/\((Cp.sum 0 s.data.toList:Nat):Int)=m.c)/\s.size<=3000000000:=by
   rcases zbx D ⟨(Np.nameL 116 f0).toArray⟩ with ⟨h1,h2⟩ | ⟨s,h1,h2,h3⟩
   · refine ⟨_,_,h2,HSO.out.trans ⟨fun h=>?_,fun ⟨h,_⟩=>(by cases h)⟩,by show 0<=_;omega⟩
     obtain ⟨L,h,_⟩:=h HFI.out
     rw [h1] at h
     cases h
   · refine ⟨s,0,h2,HSO.out.trans ⟨fun h=>?_,fun ⟨_,h5,h6⟩ _=>⟨_,h1,h5,h6⟩⟩,by have:=HU.out;omega⟩
     obtain ⟨L,h,h5,h6⟩:=h HFI.out
     rw [h1] at h
     injection h with h
     subst h;exact ⟨rfl,h5,h6⟩
  have RB2:=fun (W:World) (h:IsL FL W (.slice fa fn fc) D.f)=>RDL.out ⟨(Np.nameL 116 f0).toArray⟩ W h;rw [hr2] at RB2;replace RB2:=zid RB2;have OF:=zid fun W:World=>zkx s2 W hb2
  obtain ⟨bd,hbd⟩:∃bd:Bool,bd=true↔ ¬Lg.SnapOk D m:=by
   rcases Classical.em (Lg.SnapOk D m) with h | h
   · exact ⟨false,fun e=>(by cases e),fun h'=>absurd h h'⟩
   · exact ⟨true,fun _=>h,fun _=>rfl⟩
  have HBB:=zid hbd;have HS2:=zid hs2;clear hr2 hb2 hs2;obtain ⟨d0,d1,d2,d3,d4⟩:=zaa (HUa.out.m.at_ (t:=w.heap.size) (mcm mcs));go_wp2_with fail;refine (RB2.out _ (HUa.out.m.fl mcs)).mono ?_;rintro e w7 ⟨rfl,b7⟩;have U7:=zid (HUa.out.keep b7);clear b7 HUa RB2 d0 d1 d2 d3 d4;obtain ⟨q0,q1,q2,q3⟩:=Mfs.cells4 (U7.out.m.at_ (t:=tm) mcs);go_upto_region 14 with (fail)
  go_cut [79] (fun v wc=>v= .bool bd/\∃nd,wc=w7.drewN nd)
  case first=>
   clear hbd
   by_cases he2:er2=0
   case neg=>
    obtain rfl:bd=true:=HBB.out.2 fun h=>he2 (HS2.out.1 h).1
    have he':(er2 != 0)=true:=by simpa using he2
    go_quiet (fail)
    go_wp2_with fail;go_meet
    case rel=>exact ⟨by first | rfl | simp,_,rfl⟩
   case pos=>
   subst he2
   by_cases hz2:(s2.size:Int)=m.z
   case neg=>
    obtain rfl:bd=true:=HBB.out.2 fun h=>hz2 (HS2.out.1 h).2.1
    have he':((s2.size:Int) != m.z)=true:=by simpa using hz2
    go_quiet (fail)
    go_wp2_with fail;go_meet
    case rel=>exact ⟨by first | rfl | simp,_,rfl⟩
   case pos=>
   have he':((s2.size:Int) != m.z)=false:=by simpa using hz2
   have hcs:((((Cp.sum 0 s2.data.toList:Nat):Int)) != m.c)=bd:=by
    rcases Classical.em (((Cp.sum 0 s2.data.toList:Nat):Int)=m.c) with h | h
    · obtain rfl:bd=false:=by
       cases bd
       · rfl
       · exact absurd (HS2.out.2 ⟨rfl,hz2,h⟩) (HBB.out.1 rfl)
      simpa using h
    · obtain rfl:bd=true:=HBB.out.2 fun h'=>h (HS2.out.1 h').2.2
      simpa using h
   clear hz2;generalize Cp.sum 0 s2.data.toList=cs2 at*
   go_quiet ((go_at_call 31;exact Calls.quiet_of_same ((OF.out _).mono fun _ _ ⟨he,hw⟩=>⟨he,hw.symm⟩)))
   go_wp2_with fail;go_meet
   case rel=>exact ⟨by first | rfl | simp,_,rfl⟩
  case' rest=>
  obtain ⟨rfl,nd,rfl⟩:=hcut;have HUc:=zid (U7.out.keep (zae nd));clear U7 q0 q1 q2 q3 OF HS2 hbd;generalize w7.drewN nd=wq at HUc ⊢
  by_cases hbt:bd=true
  case pos=>
   have HF:=zid (HNO.out (HTN.out (.inr (HBB.out.1 hbt))));obtain ⟨d0,d1,d2,d3,d4⟩:=zaa (HUc.out.m.at_ (t:=w.heap.size) (mcm mcs));obtain ⟨⟨z0,z1,z2,z3,z4⟩,z5,z6,z7,z8,z9,z10⟩:=zab (HUc.out.m.at_ (t:=w.heap.size+1) (mcm (mcm mcs)));have zf:=zaf (HUc.out.m.at_ (t:=w.heap.size+1) (mcm (mcm mcs)));subst hbt;clear HNO HYE HTN HGO RDL RG SW HBB;go_wp2_with fail;obtain ⟨Y,hY,hr,hA⟩:=zdE HUc.out.m (t1:=w.heap.size+1) (mcm (mcm mcs));rw [hY];obtain ⟨⟨x0,x1,x2,x3,x4⟩,x5,x6,x7,x8,x9,x10⟩:=zab hr;refine bodyPost_ret (v:= .tuple #[zag (.slice fa fn fc) (.slice none 0 0) (Lg.bare D),.int .i64 3]) (by unfold zag Lg.bare;simp [results,Tryz.results20,go_sem,x0,x1,x2,x3,x4,x5,x6,x7,x8,x9,x10];simp [Lg.bare]) rfl ?_;rw [HF.out];exact hA 3
  case' neg=>
  have hsn:=zid (Classical.not_not.1 fun h=>hbt (HBB.out.2 h))
  obtain rfl:bd=false:=by simpa using hbt
  clear hbt HBB;go_upto_region 16 with (fail)
 case' inr=>
  rw [if_neg (by omega)] at hX;have hsn:=zid (HSO.out.2 fun h=>absurd h (by omega));have HUc:=zid (show Uw w (.slice fa fn fc) D [(tm,mC (.slice (some ⟨ab,ao,none⟩) ln ic) m),(w.heap.size,dC (.slice fa fn fc) D),(w.heap.size+1,zS)] [] (.slice (some ⟨ab,ao,none⟩) ln ic) m.l (.slice (some ⟨ub,0,none⟩) 1 1) ((⟨#[109]⟩:ByteArray)::X) w4 from by rw [<-hX];exact HUW.out);go_upto_region 16 with (fail);clear HUW c0 q0 q1 q2 q3 SNP;obtain ⟨wq,hwq⟩:∃wq,w4=wq:=⟨_,rfl⟩;rw [hwq] at HUc ⊢;clear hwq
 all_goals
  obtain ⟨d0,d1,d2,d3,d4⟩:=zaa (HUc.out.m.at_ (t:=w.heap.size) (mcm mcs))
  obtain ⟨q0,q1,q2,q3⟩:=Mfs.cells4 (HUc.out.m.at_ (t:=tm) mcs);have HTG:=zid (HGO2.out hsn.out);have HLM:=zid (Lg.last_map D (l:=m.l) (List.length_pos_iff.1 HOKM.out.n0))
  have hun:ln<=64:=by rw [HUc.out.i.len.1];exact HOKM.out.n1
  go_wp2_with fail;refine (RG.out m _ _ _ _ (HUc.out.m.fl mcs) HUc.out.i HOKM.out).mono ?_
  rcases hsa:Lg.segA D m.l with _ | gs
  case none=>
   rintro e w8 ⟨ga,gn,gc,wh,rfl,_,_,b8,_⟩;rw [hsa];have HF:=zid (HNO.out (HTG.out.trans (show _=none by rw [hsa];rfl)));have U9:=zid (HUc.out.keep b8);clear b8 HTG HLM HUc hsa d0 d1 d2 d3 d4 q0 q1 q2 q3;obtain ⟨d0,d1,d2,d3,d4⟩:=zaa (U9.out.m.at_ (t:=w.heap.size) (mcm mcs));obtain ⟨⟨z0,z1,z2,z3,z4⟩,z5,z6,z7,z8,z9,z10⟩:=zab (U9.out.m.at_ (t:=w.heap.size+1) (mcm (mcm mcs)));have zf:=zaf (U9.out.m.at_ (t:=w.heap.size+1) (mcm (mcm mcs)));clear HNO HYE HTN HGO RDL RG SW;go_wp2_with fail;obtain ⟨Y,hY,hr,hA⟩:=zdE U9.out.m (t1:=w.heap.size+1) (mcm (mcm mcs));rw [hY];obtain ⟨⟨x0,x1,x2,x3,x4⟩,x5,x6,x7,x8,x9,x10⟩:=zab hr;refine bodyPost_ret (v:= .tuple #[zag (.slice fa fn fc) (.slice none 0 0) (Lg.bare D),.int .i64 3]) (by unfold zag Lg.bare;simp [results,Tryz.results20,go_sem,x0,x1,x2,x3,x4,x5,x6,x7,x8,x9,x10];simp [Lg.bare]) rfl ?_;rw [HF.out];exact hA 3
  case some=>
  rintro e w8 ⟨ga,gn,gc,wh,rfl,hgl,hgs,b8,hwh⟩;rw [hsa] at hgl hwh ⊢;rw [Option.getD_some] at hgl;obtain rfl:=zge hsa;replace hwh:=hwh rfl;have hlen:=HUc.out.i.len.1
  have hgn:gn=ln:=by rw [hgl.len.1,List.length_map,hlen]
  obtain ⟨m1,rfl⟩:∃m1,ln=m1+1:=⟨ln-1,by omega⟩;subst hgn;have hlm:=HLM.out;rw [List.length_map, <-hlen,Nat.add_sub_cancel] at hlm;unfold Lg.lastW at hwh;rw [<-hlen,Nat.add_sub_cancel] at hwh;have hbb:=HOKM.out.at_ m1 (by omega);unfold Qm.AtOk at hbb;have hfw:=zd5 ((dat D (segN (m.l.getD m1 0))).getD []) (m.l.getD m1 0)
  have hdl:((dat D (segN (m.l.getD m1 0))).getD []).length<=30000000:=by
   have h4:=HU.out
   rcases zbx D (segN (m.l.getD m1 0)) with ⟨h,_⟩ | ⟨s,h,_,h5⟩
   · rw [h];exact Nat.zero_le _
   · rw [h]
     show s.size<=_
     omega
  have hgb:(Lg.segG D (m.l.getD m1 0)).b=m.l.getD m1 0:=rfl;have hgn:(Lg.segG D (m.l.getD m1 0)).n=((Gp.full ((dat D (segN (m.l.getD m1 0))).getD []) (m.l.getD m1 0)).1.length:Nat):=rfl
  have hgz:(Lg.segG D (m.l.getD m1 0)).z=(wh:Int):=by rw [hwh];rfl
  rw [<-hwh] at hfw;have HS:=HYE.out ⟨D,m.v,m.l.map (Lg.segG D),(Lg.segG D (m.l.getD m1 0)).b+(Lg.segG D (m.l.getD m1 0)).n,(Lg.segG D (m.l.getD m1 0)).b+(Lg.segG D (m.l.getD m1 0)).n,m.z,m.c⟩ (HTG.out.trans (show _=_ by rw [hsa,Option.map_some,HLM.out, <-hlen,Nat.add_sub_cancel]))
  have hST:Lg.settT ⟨D,m.v,m.l.map (Lg.segG D),(Lg.segG D (m.l.getD m1 0)).b+(Lg.segG D (m.l.getD m1 0)).n,(Lg.segG D (m.l.getD m1 0)).b+(Lg.segG D (m.l.getD m1 0)).n,m.z,m.c⟩=(if (Lg.sweep D (((⟨#[109]⟩:ByteArray)::X)++m.l.map segN)).2≠0 then Lg.sweep D (((⟨#[109]⟩:ByteArray)::X)++m.l.map segN) else Lg.endT (Lg.sweep D (((⟨#[109]⟩:ByteArray)::X)++m.l.map segN)).1 (segN (Lg.segG D (m.l.getD m1 0)).b) wh):=by
   have e1:Lg.useS ⟨D,m.v,m.l.map (Lg.segG D),(Lg.segG D (m.l.getD m1 0)).b+(Lg.segG D (m.l.getD m1 0)).n,(Lg.segG D (m.l.getD m1 0)).b+(Lg.segG D (m.l.getD m1 0)).n,m.z,m.c⟩=((⟨#[109]⟩:ByteArray)::X)++m.l.map segN:=by
    unfold Lg.useS So.floor;dsimp only;rw [Lg.segG_map,Lg.head_map, <-HX.out]
    rfl
   have e2:lastG ⟨D,m.v,m.l.map (Lg.segG D),(Lg.segG D (m.l.getD m1 0)).b+(Lg.segG D (m.l.getD m1 0)).n,(Lg.segG D (m.l.getD m1 0)).b+(Lg.segG D (m.l.getD m1 0)).n,m.z,m.c⟩=Lg.segG D (m.l.getD m1 0):=by
    unfold lastG;dsimp only;rw [List.length_map, <-hlen,Nat.add_sub_cancel];exact hlm
   unfold Lg.settT;rw [e1,e2,hgz,Int.toNat_natCast]
  rw [hST] at HS;obtain ⟨US,hUS⟩:∃US,((⟨#[109]⟩:ByteArray)::X)++m.l.map segN=US:=⟨_,rfl⟩;obtain ⟨NL,hNL⟩:∃NL,m.l.map segN=NL:=⟨_,rfl⟩
  have HT:=zid fun j (h:j<m1+1)=>(show NL.take (j+1)=NL.take j++[⟨(Np.nameL 115 (m.l.getD j 0)).toArray⟩] by
   have hj:j<m.l.length:=by omega
   rw [<-hNL,List.take_succ_eq_append_getElem (by rw [List.length_map];exact hj),List.getElem_map,zao hj]
   rfl)
  have HXL:=zid (show X.length<=1 by rw [<-HX.out];split<;>simp)
  have HNN:=zid (show NL.take (m1+1)=NL from List.take_of_length_le (by rw [<-hNL,List.length_map];omega))
  have HBJ:=zid fun j (h:j<m1+1)=>(show 0<=m.l.getD j 0 by
   have:=HOKM.out.at_ j (by omega);unfold Qm.AtOk at this
   exact this.1)
  rw [hUS] at HS;have HUS:=zid (show ((⟨#[109]⟩:ByteArray)::X)++NL=US by rw [<-hNL];exact hUS);have U8:=zid (HUc.out.fresh b8 hgl hgs);have hgb2:0<=(Lg.segG D (m.l.getD m1 0)).b/\(Lg.segG D (m.l.getD m1 0)).b<=1099511627776:=⟨hbb.1,hbb.2.1⟩
  have hgn2:0<=(Lg.segG D (m.l.getD m1 0)).n/\(Lg.segG D (m.l.getD m1 0)).n<=30000000:=by rw [hgn];omega
  have HLM2:=zid hlm;clear hbb hwh hgb hgn hST hUS hNL hlm HLM hlen hgl hgs b8 HUc HTG hsa HGO HGO2 HNO HTN HYE RG d0 d1 d2 d3 d4 q0 q1 q2 q3;generalize Lg.segG D (m.l.getD m1 0)=g at*;generalize m.l.map (Lg.segG D)=SG at*;have HB1:=Lg.bd_sweep HBD.out US;have SW2:=fun (ua:Option Addr) (un uc:Nat)=>SW.out ua un uc US;obtain ⟨⟨D1,E1⟩,h1⟩:∃R,Lg.sweep D US=R:=⟨_,rfl⟩;rw [h1] at HS HB1 SW2;dsimp only at HS HB1;obtain ⟨nn,hnn⟩:∃nn,segN g.b=nn:=⟨_,rfl⟩;have SG2:=fun W:World=>zbq g.b W (by omega);rw [show (⟨(Np.nameL 115 g.b).toArray⟩:ByteArray)=nn from hnn] at SG2;rw [hnn] at HS;have RD1:=fun (a:Option Addr) (n c:Nat) (W:World) (h:IsL FL W (.slice a n c) D1.f)=>Dsk.rread_any (.slice a n c) D1 nn W h
  obtain ⟨s3,er3,hr3,hs3⟩:∃(s:ByteArray) (er:Int),zby D1.f nn= .tuple #[.string s,.int .i64 er]/\s.size=((dat D1 nn).getD []).length:=by
   rcases zbx D1 nn with ⟨h1,h2⟩ | ⟨s,h1,h2,_⟩
   · exact ⟨_,_,h2,by rw [h1];rfl⟩
   · exact ⟨_,_,h2,by rw [h1];rfl⟩
  rw [hr3] at RD1;have CT:=fun (a:Option Addr) (n c:Nat) (W:World) (h:IsL FL W (.slice a n c) D1.f)=>rcut_s HB1 (by omega) nn wh (by omega) h
  have HCT:=show Lg.cutT D1 nn wh=if wh<((dat D1 nn).getD []).length then Dp.cut D1 nn wh else (D1,0) from rfl
  rw [<-hs3] at HCT;have HB2:=zlM HB1 nn wh (by omega)
  have HE:=show Lg.endT D1 nn wh=if (Lg.cutT D1 nn wh).2≠0 then Lg.cutT D1 nn wh else Dp.sync (Lg.cutT D1 nn wh).1 nn from rfl
  obtain ⟨⟨D2,E2⟩,h2⟩:∃R,Lg.cutT D1 nn wh=R:=⟨_,rfl⟩;rw [h2] at HCT HB2 HE;dsimp only at HB2 HE;have SY:=fun (a:Option Addr) (n c:Nat) (W:World) (h:IsL FL W (.slice a n c) D2.f)=>zed HB2 (by omega) nn h;obtain ⟨⟨D3,E3⟩,h3⟩:∃R,Dp.sync D2 nn=R:=⟨_,rfl⟩;rw [h3] at SY HE;unfold zac at RD1 CT SY;replace SW2:=zid SW2;replace RD1:=zid RD1;replace CT:=zid CT;replace SY:=zid SY;replace SG2:=zid SG2;replace HS:=zid HS;replace HE:=zid HE;replace HCT:=zid HCT;have HGZ:=zid hgz;clear h1 h2 h3 hnn hr3 hs3 HB1 HB2 hgz SW;have hw1:IntKind.i64.wrap (g.b+g.n)=g.b+g.n:=IntWalk.i64_in _ ⟨by omega,by omega⟩
  have hmw:IntKind.i64.wrap (((m1+1:Nat):Int)-1)=(m1:Int):=by
   rw [show ((m1+1:Nat):Int)-1=(m1:Int) from by omega];exact IntWalk.i64_in _ ⟨by omega,by omega⟩
  have hmw2:IntKind.i64.wrap (m1:Int)=(m1:Int):=IntWalk.i64_in _ ⟨by omega,by omega⟩;obtain ⟨q0,q1,q2,q3⟩:=Mfs.cells4 (U8.out.m.at_ (t:=tm) mcs);go_wp2_with fail
  go_loopw [7,14] (fun uv i wr=>∃j,j<=m1+1/\i= .int .i64 (j:Nat)/\Hid (Uw w (.slice fa fn fc) D [(tm,mC (.slice (some ⟨ab,ao,none⟩) (m1+1) ic) m),(w.heap.size,dC (.slice fa fn fc) D),(w.heap.size+1,zS)] [((.slice ga (m1+1) gc),SG)] (.slice (some ⟨ab,ao,none⟩) (m1+1) ic) m.l uv (((⟨#[109]⟩:ByteArray)::X)++NL.take j) wr)) (fun _ i _=>(m1+1)-(intOf i).toNat)
  case atStart=>exact ⟨0,Nat.zero_le _,rfl,zid (by rw [List.take_zero,List.append_nil];exact U8.out)⟩
  case round=>
   clear q0 q1 q2 q3 U8;obtain ⟨j,hj,rfl,HUj⟩:=hrel;obtain ⟨q0,q1,q2,q3⟩:=Mfs.cells4 (HUj.out.m.at_ (t:=tm) mcs)
   by_cases hlt2:j<m1+1
   case pos=>
    obtain ⟨b',o',e1,c0⟩:=Mfs.il_at HUj.out.i hlt2
    injection e1 with e1
    injection e1 with e1 e2
    subst e1 e2;have hTj:=HT.out j hlt2;have hb0:=HBJ.out j hlt2;generalize m.l.getD j 0=b at hTj c0 hb0;have hTJ:=zid (show ((⟨#[109]⟩:ByteArray)::X)++NL.take (j+1)=(((⟨#[109]⟩:ByteArray)::X)++NL.take j)++[⟨(Np.nameL 115 b).toArray⟩] by rw [hTj,List.append_assoc])
    have hlu:(((⟨#[109]⟩:ByteArray)::X)++NL.take j).length<=100:=by
     have:=HXL.out;rw [List.length_append,List.length_cons,List.length_take];omega
    generalize ((⟨#[109]⟩:ByteArray)::X)++NL.take j=UU at HUj hlu hTJ;have SGN:=zid fun W:World=>zbq b W (by omega);clear hTj;go_wp2_with fail;refine (SGN.out _).mono ?_;rintro e w5 ⟨rfl,b5⟩;have U5:=zid (HUj.out.keep b5);have HOX:=zid (show (w5.alloc (.cells [Value.string ⟨(Np.nameL 115 b).toArray⟩].toArray 9)).ownsRow w.heap.size 9 1 u7 UU.length (Dsk.SL.vals UU) from U5.out.u.alloc _);have HNEW:=zid (zar w5 w5.heap.size [Value.string ⟨(Np.nameL 115 b).toArray⟩] 9 rfl);have hle:=U5.out.m.le;clear b5 c0 q0 q1 q2 q3
    go_wp2_with (at_builtin;refine zbR _ rfl _ _ 40 rfl w.heap.size 9 i0 (.string ByteArray.empty) 1 16 Tryz.underlying40 hi0 hz0 hz1 hz2 rfl (by decide) _ _ _ rfl HOX.out ⟨w5.heap.size,0,none⟩ 1 1 [.string ⟨(Np.nameL 115 b).toArray⟩] rfl rfl HNEW.out (by simp [Value.oneCell']) (by decide) (by unfold maxLen;omega) (by omega) (by simp;omega) ?_;intro v6 w6 ho6 hg6 hm6)
    go_roundw
    case rel=>exact ⟨j+1,by omega,by go_num,zid (by rw [hTJ.out];exact U5.out.app ⟨(Np.nameL 115 b).toArray⟩ ho6 hg6 hm6)⟩
    case measure=>simp [intOf];omega
   case neg=>
   obtain rfl:j=m1+1:=by omega
   have HUn:=HUj.out;rw [HNN.out,HUS.out] at HUn
   obtain ⟨ua2,un3,uc2,rfl⟩:∃a n c,u7= .slice a n c:=by obtain ⟨a,c,h⟩:=own_slice HUn.u;exact ⟨a,_,c,h⟩
   have hul:US.length<=100:=by
    have:=HXL.out;have h2:=congrArg List.length HNN.out;rw [<-HUS.out,List.length_append,List.length_cons];rw [List.length_take] at h2;omega
   have hIU:=HUn.u.is (by unfold maxLen;omega) (fun _ _=>trivial)
   have hun3:un3<=10000:=by have:=hIU.len.1;omega
   have HIU:=zid hIU;have M9:=zid HUn.m;clear HUn HUj hIU hul q0 q1 q2 q3;obtain ⟨q0,q1,q2,q3⟩:=Mfs.cells4 (M9.out.at_ (t:=tm) mcs);obtain ⟨d0,d1,d2,d3,d4⟩:=zaa (M9.out.at_ (t:=w.heap.size) (mcm mcs));go_wp2_with fail;refine (SW2.out _ _ _ _ (M9.out.fl mcs) HIU.out hun3).mono ?_;rintro e w9 ⟨a1,n1,c1,rfl,ks⟩;obtain ⟨y0,y1,y2,y3,y4⟩:=zaa (hkeep (M9.out.at_ (t:=w.heap.size) (mcm mcs)) ks.w);obtain ⟨yf0,yf1,yf2,yf3,yf4⟩:=zad (hkeep (M9.out.at_ (t:=w.heap.size) (mcm mcs)) ks.w)
   have LY:=zid ((M9.out.call mcs ks).lay5 (t:=w.heap.size) (cs':=[(w.heap.size,dC (.slice a1 n1 c1) D1),(tm,mC (.slice (some ⟨ab,ao,none⟩) (m1+1) ic) m),(w.heap.size+1,zS)]) (mcm mcs) (.slice a1 n1 c1) (.int .i64 D1.c) (.bool D1.a) (.int .i64 D1.l) (.bool D1.x) (fun q hq=>by
    simp only [List.mem_cons,List.not_mem_nil,or_false] at hq ⊢
    rcases hq with rfl | rfl | rfl
    · exact .inl rfl
    · exact .inr ⟨.inl rfl,by show tm≠w.heap.size;omega⟩
    · exact .inr ⟨.inr (.inr rfl),by show w.heap.size+1≠w.heap.size;omega⟩))
   clear ks d0 d1 d2 d3 d4 q0 q1 q2 q3 SW2 HIU M9;unfold zac;go_upto_region 24 with (fail);obtain ⟨Z,hZ,MZ⟩:=LY.out;rw [hZ];have M4:=zid MZ;clear hZ MZ LY y0 y1 y2 y3 y4 yf0 yf1 yf2 yf3 yf4
   by_cases hE1:E1=0
   case neg=>
    have HF:=zid (HS.out.trans (show _=(Lg.bare D1,E1) by rw [if_pos hE1];exact if_pos hE1))
    have he:(E1 != 0)=true:=by simpa using hE1
    obtain ⟨d0,d1,d2,d3,d4⟩:=zaa (M4.out.at_ (t:=w.heap.size) mcs);obtain ⟨⟨z0,z1,z2,z3,z4⟩,z5,z6,z7,z8,z9,z10⟩:=zab (M4.out.at_ (t:=w.heap.size+1) (mcm (mcm mcs)));have zf:=zaf (M4.out.at_ (t:=w.heap.size+1) (mcm (mcm mcs)));clear HS HE HCT CT SY SG2 RD1;go_wp2_with fail;obtain ⟨Y,hY,hr,hA⟩:=zdE (M4.out.sub (fs':=[(.slice a1 n1 c1,D1.f)]) (fun _ h=>h) (fun p hp=>by rw [List.mem_singleton] at hp;rw [hp];exact mcs) (fun _ h=>h)) (t1:=w.heap.size+1) (mcm (mcm mcs));rw [hY];obtain ⟨⟨x0,x1,x2,x3,x4⟩,x5,x6,x7,x8,x9,x10⟩:=zab hr;refine bodyPost_ret (v:= .tuple #[zag (.slice a1 n1 c1) (.slice none 0 0) (Lg.bare D1),.int .i64 E1]) (by unfold zag Lg.bare;simp [results,Tryz.results20,go_sem,x0,x1,x2,x3,x4,x5,x6,x7,x8,x9,x10];simp [Lg.bare]) rfl ?_;rw [HF.out];exact hA E1
   case pos=>
   subst hE1;replace HS:=zid (HS.out.trans (show _=(if (Lg.endT D1 nn wh).2≠0 then (Lg.bare (Lg.endT D1 nn wh).1,(Lg.endT D1 nn wh).2) else (⟨(Lg.endT D1 nn wh).1,m.v,SG,g.b+g.n,g.b+g.n,m.z,m.c⟩,0)) by rw [if_neg (show ¬((0:Int)≠0) from fun h=>h rfl)]));obtain ⟨sb,so,rfl,c0,c1',c2⟩:=zce (M4.out.sl mcs) (Nat.lt_succ_self m1);rw [HLM2.out] at c0 c1' c2;go_wp2_with fail;refine (SG2.out _).mono ?_;rintro e w10 ⟨rfl,b10⟩;obtain ⟨tg,htg⟩:∃tg,Z.heap.size=tg:=⟨_,rfl⟩
   have htgl:w.heap.size+1<tg:=by have:=M4.out.lt (t:=w.heap.size+1) (o:=zS) (mcm (mcm mcs));omega
   have M5:=((M4.out.sub (fs':=[((.slice a1 n1 c1),D1.f)]) (fun _ h=>h) (fun p hp=>by rw [List.mem_singleton] at hp;rw [hp];exact mcs) (fun _ h=>h)).alloc #[.int .i64 g.b,.int .i64 g.n,.int .i64 g.z] 63).keep b10;rw [htg] at M5 ⊢
   have M5:=zid (M5.sub (cs':=[(w.heap.size,dC (.slice a1 n1 c1) D1),(tg,.cells #[.int .i64 g.b,.int .i64 g.n,.int .i64 g.z] 63),(tm,mC (.slice (some ⟨ab,ao,none⟩) (m1+1) ic) m),(w.heap.size+1,zS)]) (fun p hp=>by
    simp only [List.mem_cons,List.not_mem_nil,or_false] at hp ⊢
    rcases hp with rfl | rfl | rfl | rfl
    · exact .inr (.inl rfl)
    · exact .inl rfl
    · exact .inr (.inr (.inl rfl))
    · exact .inr (.inr (.inr rfl))) (fun _ h=>h) (fun _ h=>h))
   clear b10 c0 c1' c2 hmw hmw2 M4 htg SG2;obtain ⟨d0,d1,d2,d3,d4⟩:=zaa (M5.out.at_ (t:=w.heap.size) mcs);go_wp2_with fail;refine (RD1.out _ _ _ _ (M5.out.fl mcs)).mono ?_;rintro e w11 ⟨rfl,b11⟩;have M6:=zid (M5.out.keep b11);clear b11 M5 RD1 d0 d1 d2 d3 d4;obtain ⟨d0,d1,d2,d3,d4⟩:=zaa (M6.out.at_ (t:=w.heap.size) mcs);have HS3:=HS.out;rw [HE.out] at HS3;replace HS3:=zid HS3;have hcl:=Classical.em (wh<s3.size);clear HS HE
   rcases hcl with hcl | hcl
   case' inl=>
    have hci:(wh:Int)<(s3.size:Int):=by omega
    have CT2:=CT.out;rw [<-(show (D2,E2)=Dp.cut D1 nn wh from HCT.out.trans (if_pos hcl))] at CT2;replace CT2:=zid CT2;clear hcl CT;go_wp2_with fail;refine (CT2.out _ _ _ _ (M6.out.fl mcs)).mono ?_;rintro e w12 ⟨a2,n2,c2,rfl,ks⟩;obtain ⟨y0,y1,y2,y3,y4⟩:=zaa (hkeep (M6.out.at_ (t:=w.heap.size) mcs) ks.w);obtain ⟨yf0,yf1,yf2,yf3,yf4⟩:=zad (hkeep (M6.out.at_ (t:=w.heap.size) mcs) ks.w)
    have LY:=zid ((M6.out.call mcs ks).lay5 (t:=w.heap.size) (cs':=[(w.heap.size,dC (.slice a2 n2 c2) D2),(tg,.cells #[.int .i64 g.b,.int .i64 g.n,.int .i64 g.z] 63),(tm,mC (.slice (some ⟨ab,ao,none⟩) (m1+1) ic) m),(w.heap.size+1,zS)]) mcs (.slice a2 n2 c2) (.int .i64 D2.c) (.bool D2.a) (.int .i64 D2.l) (.bool D2.x) (fun q hq=>by
     simp only [List.mem_cons,List.not_mem_nil,or_false] at hq ⊢
     rcases hq with rfl | rfl | rfl | rfl
     · exact .inl rfl
     · exact .inr ⟨.inr (.inl rfl),by show tg≠w.heap.size;omega⟩
     · exact .inr ⟨.inr (.inr (.inl rfl)),by show tm≠w.heap.size;omega⟩
     · exact .inr ⟨.inr (.inr (.inr rfl)),by show w.heap.size+1≠w.heap.size;omega⟩))
    clear ks d0 d1 d2 d3 d4 CT2;unfold zac;go_upto_region 31 with (fail);obtain ⟨Z2,hZ2,MZ2⟩:=LY.out;rw [hZ2];have M7:=zid (MZ2.sub (fs':=[((.slice a2 n2 c2),D2.f)]) (fun _ h=>h) (fun p hp=>by rw [List.mem_singleton] at hp;rw [hp];exact mcs) (fun _ h=>h));clear hZ2 MZ2 LY y0 y1 y2 y3 y4 yf0 yf1 yf2 yf3 yf4 M6
    by_cases hE2:E2=0
    case neg=>
     have HF:=zid (HS3.out.trans (show _=(Lg.bare D2,E2) by rw [if_pos hE2];exact if_pos hE2));have he:(E2==0)=false:=ne_b hE2
     have he':(E2 != 0)=true:=by simpa using hE2
     obtain ⟨d0,d1,d2,d3,d4⟩:=zaa (M7.out.at_ (t:=w.heap.size) mcs);obtain ⟨⟨z0,z1,z2,z3,z4⟩,z5,z6,z7,z8,z9,z10⟩:=zab (M7.out.at_ (t:=w.heap.size+1) (mcm (mcm (mcm mcs))));have zf:=zaf (M7.out.at_ (t:=w.heap.size+1) (mcm (mcm (mcm mcs))));clear HS3 HCT SY;go_wp2_with fail;obtain ⟨Y,hY,hr,hA⟩:=zdE M7.out (t1:=w.heap.size+1) (mcm (mcm (mcm mcs)));rw [hY];obtain ⟨⟨x0,x1,x2,x3,x4⟩,x5,x6,x7,x8,x9,x10⟩:=zab hr;refine bodyPost_ret (v:= .tuple #[zag (.slice a2 n2 c2) (.slice none 0 0) (Lg.bare D2),.int .i64 E2]) (by unfold zag Lg.bare;simp [results,Tryz.results20,go_sem,x0,x1,x2,x3,x4,x5,x6,x7,x8,x9,x10];simp [Lg.bare]) rfl ?_;rw [HF.out];exact hA E2
    case' pos=>
    subst hE2;go_upto_region 32 with (fail)
   case' inr=>
    have hci:¬(wh:Int)<(s3.size:Int):=by omega
    have h2:=HCT.out.trans (if_neg hcl)
    injection h2 with h2 h3
    subst h2 h3;obtain ⟨a2,n2,c2,hv2⟩:∃a n c,(.slice a1 n1 c1)=Value.slice a n c:=⟨_,_,_,rfl⟩
    injection hv2 with hv1 hv2 hv3
    subst hv1 hv2 hv3;go_upto_region 32 with (fail);obtain ⟨Z2,hZ2⟩:∃Z2,w11=Z2:=⟨_,rfl⟩;rw [hZ2] at M6 ⊢;have M7:=M6;clear hcl CT hZ2 M6 d0 d1 d2 d3 d4
   all_goals
    have HS4:=HS3.out
    rw [if_neg (show ¬((0:Int)≠0) from fun h=>h rfl)] at HS4;dsimp only at HS4;replace HS4:=zid HS4;clear HS3 HCT;obtain ⟨d0,d1,d2,d3,d4⟩:=zaa (M7.out.at_ (t:=w.heap.size) mcs);go_wp2_with fail;refine (SY.out _ _ _ _ (M7.out.fl mcs)).mono ?_;rintro e w13 ⟨a3,n3,c3,rfl,ks⟩;obtain ⟨y0,y1,y2,y3,y4⟩:=zaa (hkeep (M7.out.at_ (t:=w.heap.size) mcs) ks.w);obtain ⟨yf0,yf1,yf2,yf3,yf4⟩:=zad (hkeep (M7.out.at_ (t:=w.heap.size) mcs) ks.w)
    have LY:=zid ((M7.out.call mcs ks).lay5 (t:=w.heap.size) (cs':=[(w.heap.size,dC (.slice a3 n3 c3) D3),(tg,.cells #[.int .i64 g.b,.int .i64 g.n,.int .i64 g.z] 63),(tm,mC (.slice (some ⟨ab,ao,none⟩) (m1+1) ic) m),(w.heap.size+1,zS)]) mcs (.slice a3 n3 c3) (.int .i64 D3.c) (.bool D3.a) (.int .i64 D3.l) (.bool D3.x) (fun q hq=>by
     simp only [List.mem_cons,List.not_mem_nil,or_false] at hq ⊢
     rcases hq with rfl | rfl | rfl | rfl
     · exact .inl rfl
     · exact .inr ⟨.inr (.inl rfl),by show tg≠w.heap.size;omega⟩
     · exact .inr ⟨.inr (.inr (.inl rfl)),by show tm≠w.heap.size;omega⟩
     · exact .inr ⟨.inr (.inr (.inr rfl)),by show w.heap.size+1≠w.heap.size;omega⟩))
    clear ks d0 d1 d2 d3 d4 SY M7;unfold zac;go_upto_region 33 with (fail);obtain ⟨Z3,hZ3,MZ3⟩:=LY.out;rw [hZ3];have M8:=zid (MZ3.sub (fs':=[((.slice a3 n3 c3),D3.f)]) (fun _ h=>h) (fun p hp=>by rw [List.mem_singleton] at hp;rw [hp];exact mcs) (fun _ h=>h));clear hZ3 MZ3 LY y0 y1 y2 y3 y4 yf0 yf1 yf2 yf3 yf4;obtain ⟨d0,d1,d2,d3,d4⟩:=zaa (M8.out.at_ (t:=w.heap.size) mcs);obtain ⟨⟨z0,z1,z2,z3,z4⟩,z5,z6,z7,z8,z9,z10⟩:=zab (M8.out.at_ (t:=w.heap.size+1) (mcm (mcm (mcm mcs))));have zf:=zaf (M8.out.at_ (t:=w.heap.size+1) (mcm (mcm (mcm mcs))))
    by_cases hE3:E3=0
    case neg=>
     have HF:=zid (HS4.out.trans (if_pos hE3))
     have he':(E3 != 0)=true:=by simpa using hE3
     clear HS4;go_wp2_with fail;obtain ⟨Y,hY,hr,hA⟩:=zdE M8.out (t1:=w.heap.size+1) (mcm (mcm (mcm mcs)));rw [hY];obtain ⟨⟨x0,x1,x2,x3,x4⟩,x5,x6,x7,x8,x9,x10⟩:=zab hr;refine bodyPost_ret (v:= .tuple #[zag (.slice a3 n3 c3) (.slice none 0 0) (Lg.bare D3),.int .i64 E3]) (by unfold zag Lg.bare;simp [results,Tryz.results20,go_sem,x0,x1,x2,x3,x4,x5,x6,x7,x8,x9,x10];simp [Lg.bare]) rfl ?_;rw [HF.out];exact hA E3
    case pos=>
    subst hE3;have HF:=zid (HS4.out.trans (if_neg (fun h=>h rfl)));obtain ⟨q0,q1,q2,q3⟩:=Mfs.cells4 (M8.out.at_ (t:=tm) (mcm (mcm mcs)));obtain ⟨p0,p1,p2⟩:=Dsk.cells3 (M8.out.at_ (t:=tg) (mcm mcs));clear HS4;go_wp2_with fail;obtain ⟨Y,hY,M9⟩:=M8.out.lay11 (t:=w.heap.size+1) (cs':=[(w.heap.size+1,sC (.slice a3 n3 c3) (.slice (some ⟨sb,so,none⟩) (m1+1) gc) ⟨D3,m.v,SG,g.b+g.n,g.b+g.n,m.z,m.c⟩)]) (mcm (mcm (mcm mcs))) (.slice a3 n3 c3) (.int .i64 D3.c) (.bool D3.a) (.int .i64 D3.l) (.bool D3.x) (.int .i64 m.v) (.slice (some ⟨sb,so,none⟩) (m1+1) gc) (.int .i64 (g.b+g.n)) (.int .i64 (g.b+g.n)) (.int .i64 m.z) (.int .u32 m.c) (fun p hp=> .inl (List.mem_singleton.1 hp));rw [hY];obtain ⟨⟨x0,x1,x2,x3,x4⟩,x5,x6,x7,x8,x9,x10⟩:=zab (M9.at_ mcs);refine bodyPost_ret (v:= .tuple #[zag (.slice a3 n3 c3) (.slice (some ⟨sb,so,none⟩) (m1+1) gc) ⟨D3,m.v,SG,g.b+g.n,g.b+g.n,m.z,m.c⟩,.int .i64 0]) (by unfold zag;simp [results,Tryz.results20,go_sem,x0,x1,x2,x3,x4,x5,x6,x7,x8,x9,x10]) rfl ?_;rw [HF.out];exact ⟨_,_,_,_,_,_,rfl,M9.sts (T:=⟨D3,m.v,SG,g.b+g.n,g.b+g.n,m.z,m.c⟩) mcs mcs⟩
end Ro
end Go.Proofs.YtgmppfpllogdcaaGreat

/-
  Parts of what the laws of this seat stand on:StoRoll2,StoApp,StoGood.
-/
import Derived.Test.YtgmppfpllogdcaaGreatBi1
import Derived.Test.YtgmppfpllogdcaaGreatBi22
import Derived.Test.YtgmppfpllogdcaaGreatBi24
import Derived.Test.YtgmppfpllogdcaaGreatBi37
set_option maxRecDepth 100000
set_option maxHeartbeats 6400000
namespace Go.Proofs.YtgmppfpllogdcaaGreat
namespace Sto
open Go.RowKit So Dsk Rts
theorem zkq (fa ga:Option Addr) (fn fc gn gc:Nat) (S:St) (w:World) (k:Nat) (hv:IsL FL w (.slice fa fn fc) S.d.f) (hg:IsL Rts.SL w (.slice ga gn gc) S.g) (hn:S.g≠[]) (hB:Stb S) (hS:Bd S.d k) (hk:k<=80000) (hx:0<=S.x/\S.x<=1099511627776) (hver:S.v<1152921504606846976):
 Calls Tryz.prog 42 #[zag (.slice fa fn fc) (.slice ga gn gc) S] w (zdW w (.slice fa fn fc) (.slice ga gn gc) (roll S)):=by
 have T0:=zid fun (W0:World)=> @Ts.new w (.slice fa fn fc) (.slice ga gn gc) S W0 hv hg;have hgl:=hg.len.1
 have hgn:gn<=1000:=by rw [hgl];exact hB.n
 have HGL:=zid hgl;have RY:=zid fun (W:World) (h1:IsL FL W (.slice fa fn fc) S.d.f) (h2:IsL Rts.SL W (.slice ga gn gc) S.g)=>zda fa ga fn fc gn gc S W k h1 h2 hn hB hS (by omega);have HB:=zid hB;have HS:=zid hS;have HN:=zid hn;clear hv hg hn hB hS hgl;unfold zag at RY ⊢
 go_enter Tryz.func42,Tryz.ntmps42
 go_upto_region 1 with (fail);obtain ⟨w0,hW⟩:∃W0,(w.alloc (.cells #[.slice fa fn fc,.int .i64 S.d.c,.bool S.d.a,.int .i64 S.d.l,.bool S.d.x,.int .i64 S.v,.slice ga gn gc,.int .i64 S.x,.int .i64 S.s,.int .i64 S.z,.int .u32 S.c] 31)).alloc (.cells #[.slice none 0 0,.int .i64 0,.bool false,.int .i64 0,.bool false,.int .i64 0,.slice none 0 0,.int .i64 0,.int .i64 0,.int .i64 0,.int .u32 0] 31)=W0:=⟨_,rfl⟩;rw [hW];have T1:=T0.out w0 hW;clear T0 hW;obtain ⟨⟨k0,k1,k2,k3,k4⟩,k5,k6,k7,k8,k9,k10⟩:=zab T1.d;obtain ⟨⟨r0,r1,r2,r3,r4⟩,r5,r6,r7,r8,r9,r10⟩:=zab T1.r;have kr:=zaf T1.r;have TT:=zid T1;clear T1
 by_cases h64:64<=gn
 · have HR:=zid (zel (S:=S) (by rw [<-HGL.out];exact h64))
   have TF:=zid TT.out.fin
   go_wp2_with fail;obtain ⟨Z3,hZ3,Z4,Z5⟩:=TF.out;rw [hZ3];obtain ⟨⟨s0,s1,s2,s3,s4⟩,s5,s6,s7,s8,s9,s10⟩:=zab Z4;refine bodyPost_ret (v:= .tuple #[zag (.slice fa fn fc) (.slice ga gn gc) S,.int .i64 9]) (by unfold zag;simp [results,Tryz.results42,go_sem,s0,s1,s2,s3,s4,s5,s6,s7,s8,s9,s10]) rfl ?_;rw [HR.out];exact ⟨_,_,_,_,_,_,rfl,Z5⟩
 have H64:=zid (show ¬64<=S.g.length by rw [<-HGL.out];exact h64);obtain ⟨⟨T,E0⟩,hT⟩:∃R,zat S=R:=⟨_,rfl⟩;have RY0:=RY.out w0 TT.out.f TT.out.g;rw [hT] at RY0;have HT:=zid hT;have TFa:=zid (zc9 S HS.out hT);replace RY0:=zid RY0;clear hT RY;go_wp2_with fail;refine RY0.out.mono ?_;rintro e w1 ⟨a1,n1,c1,a2,n2,c2,rfl,ks⟩;clear k0 k1 k2 k3 k4 k5 k6 k7 k8 k9 k10 r0 r1 r2 r3 r4 r5 r6 r7 r8 r9 r10 kr RY0;have LY:=zid (TT.out.store ks);obtain ⟨⟨k0,k1,k2,k3,k4⟩,k5,k6,k7,k8,k9,k10⟩:=zab (hkeep TT.out.d ks.w);have kf:=zaf (hkeep TT.out.d ks.w);clear ks;unfold zag
 go_upto_if 18 with (fail)
 obtain ⟨Z,hZ,T3⟩:=LY.out;rw [hZ];clear hZ LY k0 k1 k2 k3 k4 k5 k6 k7 k8 k9 k10 kf;obtain ⟨⟨k0,k1,k2,k3,k4⟩,k5,k6,k7,k8,k9,k10⟩:=zab T3.d;obtain ⟨⟨r0,r1,r2,r3,r4⟩,r5,r6,r7,r8,r9,r10⟩:=zab T3.r;have kr:=zaf T3.r;have T3H:=zid T3;have TF:=zid T3.fin;clear T3
 by_cases hz:E0=0
 case neg=>
  have HR:=zid (zej H64.out HT.out hz);have hz':=ne_b hz;clear hz;go_wp2_with fail;obtain ⟨Z3,hZ3,Z4,Z5⟩:=TF.out;rw [hZ3];obtain ⟨⟨s0,s1,s2,s3,s4⟩,s5,s6,s7,s8,s9,s10⟩:=zab Z4;refine bodyPost_ret (v:= .tuple #[zag (.slice a1 n1 c1) (.slice a2 n2 c2) T,.int .i64 E0]) (by unfold zag;simp [results,Tryz.results42,go_sem,s0,s1,s2,s3,s4,s5,s6,s7,s8,s9,s10]) rfl ?_;rw [HR.out];exact ⟨_,_,_,_,_,_,rfl,Z5⟩
 subst hz;clear TF;obtain ⟨⟨C1,E1⟩,hC⟩:∃R,Dp.create T.d (segN T.x)=R:=⟨_,rfl⟩
 have hxT:0<=T.x/\T.x<=1099511627776:=by have:=TFa.out.2.2.1;omega
 have RC:=fun (W:World) (h:IsL FL W (.slice a1 n1 c1) T.d.f)=>zck TFa.out.1 (by omega) (segN T.x) (seg_size hxT) h;have HB1:=zas TFa.out.1 (segN T.x);rw [hC] at HB1;dsimp only at HB1;replace HB1:=zid HB1;have SG:=fun W:World=>zbq T.x W (by omega);rw [show (⟨(Np.nameL 115 T.x).toArray⟩:ByteArray)=segN T.x from rfl] at SG;have HC:=zid hC;obtain ⟨sg,hsg⟩:∃s,segN T.x=s:=⟨_,rfl⟩;simp only [hC] at RC;rw [hsg] at SG;simp only [hsg] at RC;unfold zac at RC;have HSG:=zid hsg;replace SG:=zid SG;replace RC:=zid RC;clear hC hsg;go_upto_region 6 with (fail);clear k0 k1 k2 k3 k4 k5 k6 k7 k8 k9 k10 r0 r1 r2 r3 r4 r5 r6 r7 r8 r9 r10 kr;have TD:=zid (T3H.out.keep (W':=Z.drew) (Below.refl _ _).drew);obtain ⟨⟨k0,k1,k2,k3,k4⟩,k5,k6,k7,k8,k9,k10⟩:=zab TD.out.d;have kf:=zaf TD.out.d
 go_cut [4] (fun v wc=>v= .int .i64 E1/\TsR w (.slice fa fn fc) (.slice ga gn gc) {T with d:=C1} wc)
 case first=>
  go_region_with (first | (go_at_call 35;refine (SG.out _).mono ?_;rintro e w4 ⟨rfl,b4⟩;have C4:=zid (TD.out.keep b4);obtain ⟨⟨z0,z1,z2,z3,z4⟩,z5,z6,z7,z8,z9,z10⟩:=zab C4.out.d;have zf:=zaf C4.out.d;clear b4) | (go_at_call 53;refine (RC.out _ C4.out.f).mono ?_;rintro e w5 ⟨a5,n5,c5,rfl,k5'⟩;obtain ⟨⟨x0,x1,x2,x3,x4⟩,x5,x6,x7,x8,x9,x10⟩:=zab (hkeep C4.out.d k5'.w);have xf:=zaf (hkeep C4.out.d k5'.w);have LY:=zid (C4.out.dsk k5');clear k5';unfold zac))
  all_goals
   go_wp2_with fail
   go_meet
   case rel=>
    obtain ⟨Y,hY,Y1⟩:=LY.out;rw [hY];exact ⟨rfl,_,_,_,_,_,_,Y1⟩
 case rest=>
  clear k0 k1 k2 k3 k4 k5 k6 k7 k8 k9 k10 kf TD TT SG RC;obtain ⟨rfl,a3,n3,c3,a4,n4,c4,T4⟩:=hcut;have T4H:=zid T4;have TF:=zid T4.fin
  have hvv:0<=T.v/\T.v<=1152921504606846976:=by have:=TFa.out.2.2.2.1;have:=HB.out.v;omega
  obtain ⟨⟨k0,k1,k2,k3,k4⟩,k5,k6,k7,k8,k9,k10⟩:=zab T4.d;obtain ⟨⟨r0,r1,r2,r3,r4⟩,r5,r6,r7,r8,r9,r10⟩:=zab T4.r;have kr:=zaf T4.r;clear T4
  by_cases hz:E1=0
  case neg=>
   have HR:=zid (zdb H64.out HT.out HC.out hz);have hz':=ne_b hz;clear hz;go_wp2_with fail;obtain ⟨Z3,hZ3,Z4,Z5⟩:=TF.out;rw [hZ3];obtain ⟨⟨s0,s1,s2,s3,s4⟩,s5,s6,s7,s8,s9,s10⟩:=zab Z4
   refine bodyPost_ret (v:= .tuple #[zag (.slice a3 n3 c3) (.slice a4 n4 c4) {T with d:=C1},.int .i64 E1]) (by unfold zag;simp [results,Tryz.results42,go_sem,s0,s1,s2,s3,s4,s5,s6,s7,s8,s9,s10]) rfl ?_
   rw [HR.out];exact ⟨_,_,_,_,_,_,rfl,Z5⟩
  subst hz;clear TF;have hw1:IntKind.i64.wrap (T.v+1)=T.v+1:=IntWalk.i64_in _ ⟨by omega,by omega⟩;clear k0 k1 k2 k3 k4 k5 k6 k7 k8 k9 k10 r0 r1 r2 r3 r4 r5 r6 r7 r8 r9 r10 kr;obtain ⟨⟨k0,k1,k2,k3,k4⟩,k5,k6,k7,k8,k9,k10⟩:=zab T4H.out.d;go_upto_region 10 with (fail);have X1:=Tx.new T4H.out;dsimp only at X1;generalize wc.alloc _=w2 at X1 ⊢;generalize hxb:wc.heap.size=xb at X1 ⊢;clear hxb k0 k1 k2 k3 k4 k5 k6 k7 k8 k9 k10;obtain ⟨⟨k0,k1,k2,k3,k4⟩,k5,k6,k7,k8,k9,k10⟩:=zab X1.t.d;obtain ⟨⟨x0,x1,x2,x3,x4⟩,x5,x6,x7,x8,x9,x10⟩:=zab X1.o;have xf:=zaf X1.o;have XV:=zid (X1.vers (T.v+1));clear X1;go_upto_region 11 with (fail);have X2:=XV.out;generalize w2.setCell ⟨xb,5,none⟩ (.int .i64 (T.v+1))=w0 at X2 ⊢;clear hw1 XV k0 k1 k2 k3 k4 k5 k6 k7 k8 k9 k10 x0 x1 x2 x3 x4 x5 x6 x7 x8 x9 x10 xf T4H;have XT:=zid X2;obtain ⟨⟨k0,k1,k2,k3,k4⟩,k5,k6,k7,k8,k9,k10⟩:=zab X2.t.d;obtain ⟨⟨x0,x1,x2,x3,x4⟩,x5,x6,x7,x8,x9,x10⟩:=zab X2.o;have xf:=zaf X2.o;have xlt:=(Array.getElem?_eq_some_iff.1 X2.o).1;have klt:=(Array.getElem?_eq_some_iff.1 X2.t.d).1;have hgl4:=X2.t.g.len.1;dsimp only at hgl4
  have hn4:0<n4/\n4<=1000:=by
   have h1:=TFa.out.2.1;rw [hgl4,h1];exact ⟨List.length_pos_iff.2 HN.out,HB.out.n⟩
  obtain ⟨gb,goff,rfl,_,_,_⟩:=zce X2.t.g (show 0<n4 from hn4.1);obtain ⟨i0,hi0,hz0,hz1,hz2⟩:=info_parts zfF
  have mixed:Tryz.prog.follows Departure.mixedOrders=true:=by kernel_rfl
  have HS1:=zid (show ∀W,Below w0.heap.size w0 W->∀j u,(Rts.SL.vals T.g)[j]?=some u->W.cell? ((⟨gb,goff,none⟩:Addr).add j)=some u from fun W b=>(X2.t.g.keep b).news);have HL1:=zid (show (Rts.SL.vals T.g).length=n4*3 by rw [Lay.vals_len, <-hgl4];rfl);have HC1:=zid (show ∀u∈Rts.SL.vals T.g,u.oneCell'=true from Rts.SL.vals_cells _);have HC3:=zid (show ∀u∈([.int .i64 T.x,.int .i64 0,.int .i64 0]:List Value),u.oneCell'=true from by simp [Value.oneCell']);have HXS:=zid (show Rts.SL.vals (T.g++[⟨T.x,0,0⟩])=[]++Rts.SL.vals T.g++[.int .i64 T.x,.int .i64 0,.int .i64 0] from by rw [Rts.SL.vals_append,Rts.SL.vals_one];rfl);have HGL4:=zid hgl4;generalize Rts.SL.vals T.g=xs1 at HS1 HL1 HC1 HXS;clear X2 hgl4
  go_cut [] (fun wd=>TxR w w.heap.size xb (.slice fa fn fc) (.slice ga gn gc) (.slice a3 n3 c3) (.slice (some ⟨gb,goff,none⟩) n4 c4) (.slice a3 n3 c3) {T with d:=C1} (T.v+1) (T.g++[⟨T.x,0,0⟩]) wd)
  case first=>
   go_region_law_o (first | (refine zaB rfl (.tmp 40) (.tmp 42) 28 rfl w0.heap.size 63 i0 (.agg #[.int .i64 0,.int .i64 0,.int .i64 0]) 3 24 Tryz.underlying28 hi0 hz0 hz1 hz2 rfl (by decide) _ 0 [] (by simp [Act.eval];rfl) (by first | exact zbU (hp_a _) (Nat.le_refl _) | exact zbU (ze5 _ _) (Nat.le_succ _) | exact zbU (ze6 _ _) (Nat.le_refl _)) ⟨gb,goff,none⟩ n4 c4 xs1 (by first | (simp [Act.eval];done) | (simp [Act.eval];rfl)) HL1.out (HS1.out _ (by first | exact zdT _ | exact zba _ _)) HC1.out (by unfold maxLen;omega) (by omega) (by first | exact (zdT _).size | exact (zba _ _).size) ?_;intro v1 w3 hown1 hg1;have B3:Below w0.heap.size w0 w3:=(by first | exact (zdT _).grown hg1 (zdT _).size (fun q hq=>Nat.le_of_eq (Option.some.inj hq)) | exact (zba _ _).grown hg1 (zba _ _).size (fun q hq=>Nat.le_of_eq (Option.some.inj hq)) | exact (zba _ _).grown hg1 (zba _ _).size (fun q hq=>Nat.le_trans (Nat.le_succ _) (Nat.le_of_eq (Option.some.inj hq))));obtain ⟨⟨z0,z1,z2,z3,z4⟩,z5,z6,z7,z8,z9,z10⟩:=zab (hkeep XT.out.t.d B3);obtain ⟨⟨u0,u1,u2,u3,u4⟩,u5,u6,u7,u8,u9,u10⟩:=zab (hkeep XT.out.o B3);have uf:=zaf (hkeep XT.out.o B3);have xlt3:=Nat.lt_of_lt_of_le xlt B3.size;have klt3:=Nat.lt_of_lt_of_le klt B3.size) | (refine zaB rfl (.tmp 43) (.tmp 47) 28 rfl w0.heap.size 63 i0 (.agg #[.int .i64 0,.int .i64 0,.int .i64 0]) 3 24 Tryz.underlying28 hi0 hz0 hz1 hz2 rfl (by decide) v1 (0+n4) ([]++xs1) (by first | (simp [Act.eval];done) | (simp [Act.eval];rfl)) (by first | exact hown1 | exact World.ownsRow.alloc hown1 _) _ 1 1 [.int .i64 T.x,.int .i64 0,.int .i64 0] (by simp [Act.eval];rfl) rfl (by first | exact zar w3 _ [.int .i64 T.x,.int .i64 0,.int .i64 0] _ rfl | exact zdC ((hg1.block _ (by first | (simp;done) | (simp;omega)) (fun e=>Nat.succ_ne_self _ (Option.some.inj e).symm)).trans (ze6 _ _)) | exact zdC ((hg1.block _ (by first | (simp;done) | (simp;omega)) (fun e=>Nat.succ_ne_self _ (Option.some.inj e))).trans (ze5 _ _))) HC3.out (by unfold maxLen;omega) (by omega) (by first | exact B3.size | exact Nat.le_trans B3.size (by simp)) ?_;intro v2 w4 hown2 hg2;have B4:Below w0.heap.size w0 w4:=(by first | exact B3.grown hg2 B3.size (fun q hq=>(World.ownsRow.lt hown1 q hq).1) | exact (B3.alloc B3.size _).grown hg2 (Nat.le_trans B3.size (by simp)) (fun q hq=>(World.ownsRow.lt hown1 q hq).1));obtain ⟨⟨e0,e1,e2,e3,e4⟩,e5,e6,e7,e8,e9,e10⟩:=zab (hkeep XT.out.o B4);have ef:=zaf (hkeep XT.out.o B4);obtain ⟨y1,y2,rfl⟩:=zcl hown2))
   all_goals
    go_wp2_with fail
    go_meet
    case rel=>
     have hlen:(T.g++[(⟨T.x,0,0⟩:Rt.Sg)]).length=n4+1:=by rw [List.length_append, <-HGL4.out];rfl
     have hO:OwnL Rts.SL w4 w0.heap.size (.slice y1 (n4+1) y2) (T.g++[⟨T.x,0,0⟩]):=by
      have ho:=hown2;simp only [Nat.zero_add] at ho;unfold OwnL;rw [HXS.out,hlen];exact ho
     refine ⟨_,_,_,XT.out.segs B4 (hO.is (by rw [hlen];unfold maxLen;omega) fun g hg=>?_) (fun t ht=>zcP hO ht)⟩
     rcases List.mem_append.1 hg with hg | hg
     · have:=HB.out.g g (by rw [<-TFa.out.2.1];exact hg)
       exact ⟨⟨by omega,by omega⟩,⟨by omega,by omega⟩,⟨by omega,by omega⟩⟩
     · rw [List.mem_singleton] at hg
       subst hg
       exact ⟨⟨by show _<=T.x;omega,by show T.x<=_;omega⟩,⟨by show (-9223372036854775808:Int)<=0;omega,by show (0:Int)<=9223372036854775807;omega⟩,⟨by show (-9223372036854775808:Int)<=0;omega,by show (0:Int)<=9223372036854775807;omega⟩⟩
  case rest=>
   clear k0 k1 k2 k3 k4 k5 k6 k7 k8 k9 k10 x0 x1 x2 x3 x4 x5 x6 x7 x8 x9 x10 xf xlt klt XT HS1 HL1 HC1 HC3 HXS hi0 hz0 hz1 hz2 mixed;have hvT:T.v=S.v:=TFa.out.2.2.2.1;have hgT:T.g=S.g:=TFa.out.2.1;have hzT:T.z=S.z:=TFa.out.2.2.2.2.1;have hcT:T.c=S.c:=TFa.out.2.2.2.2.2.1;have hsT:=TFa.out.2.2.2.2.2.2;have hB':=HB.out
   have SB:Stb (more T C1):=by
    refine ⟨zaM HB1.out (by omega),?_,?_,?_,?_,?_,?_,?_⟩
    · show 0<=T.v+1/\T.v+1<=1152921504606846976
      have:=hB'.v;omega
    · show (T.g++[_]).length<=1000
      have:=H64.out
      rw [List.length_append,hgT];simp;omega
    · intro g hg
      rcases List.mem_append.1 (show g∈T.g++[⟨T.x,0,0⟩] from hg) with hg | hg
      · exact hB'.g g (by rw [<-hgT];exact hg)
      · rw [List.mem_singleton] at hg
        subst hg
        exact ⟨⟨hxT.1,by show T.x<=_;omega⟩,⟨by show (0:Int)<=0;omega,by show (0:Int)<=1152921504606846976;omega⟩,⟨by show (0:Int)<=0;omega,by show (0:Int)<=1152921504606846976;omega⟩⟩
    · show 0<=T.x/\T.x<=1152921504606846976
      omega
    · show 0<=T.s/\T.s<=1152921504606846976
      have:=hB'.s;omega
    · show 0<=T.z/\T.z<=1152921504606846976
      rw [hzT];exact hB'.z
    · show 0<=T.c/\T.c<4294967296
      rw [hcT];exact hB'.c
   have RM:=fun (gx:Value) (W:World) (h:IsL Rts.SL W gx (more T C1).g)=>zd1 (.slice a3 n3 c3) gx (more T C1) W h SB;have MB:Mfs.MnB (man (more T C1)):=man_more (by have:=hB'.v;omega) (by rw [hzT];exact hB'.z) (by rw [hcT];exact hB'.c);obtain ⟨⟨W1,E2⟩,hSW⟩:∃R,swap C1 (man (more T C1))=R:=⟨_,rfl⟩;have HB2:=zb9 HB1.out (man (more T C1));rw [hSW] at HB2;dsimp only at HB2;have RW:=fun (W:World) (am:Option Addr) (nm cm:Nat) (hv:IsL FL W (.slice a3 n3 c3) C1.f) (hm:IsL Mfs.IL W (.slice am nm cm) (man (more T C1)).l)=>zdm a3 n3 c3 C1 am nm cm (man (more T C1)) W _ hv hm HB1.out (by omega) MB;rw [hSW] at RW;have HSW:=zid hSW;obtain ⟨m1,hm1⟩:∃m,man (more T C1)=m:=⟨_,rfl⟩;rw [hm1] at RM RW;clear hSW hm1 MB SB;unfold zag at RM;unfold zac at RW;unfold more at RM;dsimp only at RM;replace RM:=zid RM;replace RW:=zid RW;replace HB2:=zid HB2;obtain ⟨ax,nx,cx,X3⟩:=hcut;go_upto_region 12 with (fail);have XT:=zid X3;obtain ⟨⟨k0,k1,k2,k3,k4⟩,k5,k6,k7,k8,k9,k10⟩:=zab X3.t.d;obtain ⟨⟨x0,x1,x2,x3,x4⟩,x5,x6,x7,x8,x9,x10⟩:=zab X3.o;have xlt:=(Array.getElem?_eq_some_iff.1 X3.o).1;have klt:=(Array.getElem?_eq_some_iff.1 X3.t.d).1;have BX:=zid X3.lt;dsimp only at k0 k1 k2 k3 k4 k5 k6 k7 k8 k9 k10 x0 x1 x2 x3 x4 x5 x6 x7 x8 x9 x10;clear X3 hB' hvT hgT hzT hcT hsT hvv
   go_cut [4,6] (fun e p we=>∃t:Nat,p= .pointer (some ⟨t,0,none⟩)/\e= .int .i64 E2/\TyR w w.heap.size xb (.slice fa fn fc) (.slice ga gn gc) (.slice a3 n3 c3) (.slice (some ⟨gb,goff,none⟩) n4 c4) (.slice a3 n3 c3) (.slice ax nx cx) {T with d:=C1} (T.v+1) (T.g++[⟨T.x,0,0⟩]) t W1 we)
   case first=>
    go_region_held3 (fun W=>(∀b o,b<wc.heap.size->W.cell? ⟨b,o,none⟩=wc.cell? ⟨b,o,none⟩)/\Below wc.heap.size wc W) (first | with_reducible assumption | with_reducible exact KW.dr _ | with_reducible exact KW.al5 (by assumption) | with_reducible exact KW.al (by assumption) | with_reducible exact KW.ad (KW.start _) | with_reducible exact KW.ad (by assumption) | with_reducible exact KW.st5 (by assumption) (by assumption) | with_reducible exact KW.keep (by assumption) (Below.refl _ _).drew | with_reducible exact KW.keep (by assumption) (by assumption)) (first | (go_at_call 33;refine (RM.out _ _ (by first | exact XT.out.g.keep (KW.bel (by assumption)) | exact XT.out.g.keep (Below.refl _ _).drew)).mono ?_;rintro e w4 ⟨am,nm,cm,rfl,hl,b4⟩;have HL:=zid hl;clear hl;have h4:wc.heap.size<=w4.heap.size:=Nat.le_trans (by first | exact Nat.le_refl _ | exact zbc _ _) b4.size;(first | (with_reducible have z4:=hkeep (zaI _ _ _) b4;have y4:wc.heap.size<w4.heap.size:=Nat.lt_of_lt_of_le (zaW _ _) b4.size;have x4:wc.heap.size<=wc.heap.size:=Nat.le_refl _) | skip)) | (go_at_call 54;refine (RW.out _ am nm cm (by first | exact XT.out.t.f.keep (KW.bel (by assumption)) | exact XT.out.t.f.keep (Below.refl _ _).drew) (by first | exact HL.out | exact HL.out.keep ((Below.refl _ _).alloc (Nat.le_refl _) _) | exact HL.out.keep ((Below.refl _ _).alloc (Nat.le_refl _) _).drew)).mono ?_;rintro e w5 ⟨a5,n5,c5,rfl,k5'⟩;have q5:=k5'.w;have s5:=KW.keep (by assumption) q5;have q4:=KW.at (by assumption) q5;(first | (with_reducible have z5:=hkeep (heap_alloc_new _ _) q5) | (with_reducible have z5:=hkeep z4 q5) | skip);(first | (have zc:=zaa z5;have zf:=zad z5;obtain ⟨y0,y1,y2,y3,y4⟩:=zc;obtain ⟨yf0,yf1,yf2,yf3,yf4⟩:=zf) | skip);unfold zac))
    all_goals
     rename_i hh
     clear hh s5;go_wp2_with fail;go_meet
     case rel=>
      first
       | (refine ⟨_,rfl,rfl,?_⟩;with_reducible exact TyR.A XT.out q4 k5')
       | (refine ⟨_,rfl,rfl,?_⟩;with_reducible exact TyR.B XT.out q4 k5' z5 (by assumption) (by first | assumption | simp))
   case rest=>
    clear k0 k1 k2 k3 k4 k5 k6 k7 k8 k9 k10 x0 x1 x2 x3 x4 x5 x6 x7 x8 x9 x10 xlt klt BX XT RM RW;obtain ⟨t,rfl,rfl,a7,n7,c7,Y1⟩:=hcut;have YT:=zid Y1;clear Y1
    go_upto_if 59 with (fail)
    go_cut [4] (fun v we=>∃(D:Dp.Dk) (E:Int),v= .int .i64 E/\Hid (roll S=if E≠0 then ({T with d:=D},E) else (more T D,0))/\TyR w w.heap.size xb (.slice fa fn fc) (.slice ga gn gc) (.slice a3 n3 c3) (.slice (some ⟨gb,goff,none⟩) n4 c4) (.slice a3 n3 c3) (.slice ax nx cx) {T with d:=C1} (T.v+1) (T.g++[⟨T.x,0,0⟩]) t D we)
    case first=>
     by_cases h9:E2=9
     · subst h9
       obtain ⟨⟨X1,E3⟩,hX⟩:∃R,Dp.delete W1 (segN T.x)=R:=⟨_,rfl⟩
       have HR:=zid (zek H64.out HT.out HC.out HSW.out hX);rw [HSG.out] at hX;have RD:=fun (W:World) (h:IsL FL W (.slice a7 n7 c7) W1.f)=>zbe HB2.out (by omega) sg h;rw [hX] at RD;have SG:=fun W:World=>zbq T.x W (by omega);rw [show (⟨(Np.nameL 115 T.x).toArray⟩:ByteArray)=segN T.x from rfl,HSG.out] at SG;unfold zac at RD;replace SG:=zid SG;replace RD:=zid RD;clear hX;go_upto_region 14 with (fail);have YD:=zid (YT.out.keep (W5:=World.drew _) (Below.refl _ _).drew);obtain ⟨d0,d1,d2,d3,d4⟩:=zaa YD.out.d;obtain ⟨df0,df1,df2,df3,df4⟩:=zad YD.out.d;obtain ⟨_,_,_,k7,_⟩:=zab YD.out.y.t.d;dsimp only at k7
       go_cut [4] (fun v we=>v= .int .i64 E3/\TyR w w.heap.size xb (.slice fa fn fc) (.slice ga gn gc) (.slice a3 n3 c3) (.slice (some ⟨gb,goff,none⟩) n4 c4) (.slice a3 n3 c3) (.slice ax nx cx) {T with d:=C1} (T.v+1) (T.g++[⟨T.x,0,0⟩]) t X1 we)
       case first=>
        go_region_with (first | (go_at_call 35;refine (SG.out _).mono ?_;rintro e w4 ⟨rfl,b4⟩;have C4:=zid (YD.out.keep b4);obtain ⟨z0,z1,z2,z3,z4⟩:=zaa C4.out.d;obtain ⟨zf0,zf1,zf2,zf3,zf4⟩:=zad C4.out.d;clear b4) | (go_at_call 34;refine (RD.out _ C4.out.f).mono ?_;rintro e w5 ⟨a5,n5,c5,rfl,k5'⟩;obtain ⟨x0,x1,x2,x3,x4⟩:=zaa (hkeep C4.out.d k5'.w);obtain ⟨xf0,xf1,xf2,xf3,xf4⟩:=zad (hkeep C4.out.d k5'.w);have LY:=zid (C4.out.lay k5');clear k5';unfold zac))
        all_goals
         go_wp2_with fail
         go_meet
         case rel=>
          obtain ⟨Y,hY,Y1⟩:=LY.out;rw [hY];exact ⟨rfl,_,_,_,Y1⟩
       case rest=>
        clear d0 d1 d2 d3 d4 df0 df1 df2 df3 df4 k7 YD SG RD;obtain ⟨rfl,a9,n9,c9,Y9⟩:=hcut;replace Y9:=zid Y9
        by_cases hz:E3=0
        · subst hz
          have HR2:=zid (show roll S=if (9:Int)≠0 then ({T with d:=X1},9) else (more T X1,0) from by rw [HR.out];rfl)
          clear HR;go_wp2_with fail;go_meet
          case rel=>exact ⟨X1,9,rfl,HR2.out,_,_,_,Y9.out⟩
        · have HR2:=zid (show roll S=if E3≠0 then ({T with d:=X1},E3) else (more T X1,0) from by rw [HR.out,if_neg hz,if_pos hz])
          have hz':(E3==0)=false:=by simpa using hz
          clear HR hz;go_wp2_with fail;go_meet
          case rel=>exact ⟨X1,E3,rfl,HR2.out,_,_,_,Y9.out⟩
     · have HR2:=zid (show roll S=if E2≠0 then ({T with d:=W1},E2) else (more T W1,0) from by
        by_cases hz:E2=0
        · subst hz
          exact zhD H64.out HT.out HC.out HSW.out
        · rw [if_pos hz]
          exact zfv H64.out HT.out HC.out HSW.out h9 hz)
       have h9':(E2==9)=false:=by simpa using h9
       clear h9;go_wp2_with fail;go_meet
       case rel=>exact ⟨W1,E2,rfl,HR2.out,_,_,_,YT.out⟩
    case rest=>
     clear YT;obtain ⟨D7,E7,rfl,HR,a8,n8,c8,Y2⟩:=hcut
     by_cases hz:E7=0
     · subst hz
       have HR2:=zid (show roll S=(more T D7,0) from HR)
       clear HR;obtain ⟨d0,d1,d2,d3,d4⟩:=zaa Y2.d;have kf:=zaf Y2.y.o;obtain ⟨⟨x0,x1,x2,x3,x4⟩,x5,x6,x7,x8,x9,x10⟩:=zab Y2.y.o;have LX:=zid Y2.toX;have YY:=zid Y2;clear Y2;go_upto_region 21 with (fail);obtain ⟨Z,hZ,X8,R8,F8,G8,B8⟩:=LX.out;rw [hZ];have TF:=zid (YY.out.fin R8 F8 G8 B8);clear hZ LX YY d0 d1 d2 d3 d4 kf x0 x1 x2 x3 x4 x5 x6 x7 x8 x9 x10 F8 G8 B8;obtain ⟨⟨x0,x1,x2,x3,x4⟩,x5,x6,x7,x8,x9,x10⟩:=zab X8;obtain ⟨⟨r0,r1,r2,r3,r4⟩,r5,r6,r7,r8,r9,r10⟩:=zab R8;have kr:=zaf R8;dsimp only at x7 x8 x9 x10;go_wp2_with fail;obtain ⟨Z3,hZ3,Z4,Z5⟩:=TF.out;rw [hZ3];obtain ⟨⟨s0,s1,s2,s3,s4⟩,s5,s6,s7,s8,s9,s10⟩:=zab Z4;refine bodyPost_ret (v:= .tuple #[zag (.slice a8 n8 c8) (.slice ax nx cx) (more T D7),.int .i64 0]) (by unfold zag more;simp [results,Tryz.results42,go_sem,s0,s1,s2,s3,s4,s5,s6,s7,s8,s9,s10]) rfl ?_;rw [HR2.out];exact ⟨_,_,_,_,_,_,rfl,Z5⟩
     · have HR2:=zid (show roll S=({T with d:=D7},E7) from by rw [HR,if_pos hz])
       have hz':=ne_b hz
       clear HR hz;obtain ⟨d0,d1,d2,d3,d4⟩:=zaa Y2.d;have kf:=zaf Y2.y.t.d;obtain ⟨⟨k0,k1,k2,k3,k4⟩,k5,k6,k7,k8,k9,k10⟩:=zab Y2.y.t.d;have LX:=zid Y2.toB;clear Y2;go_upto_region 19 with (fail);obtain ⟨Z,hZ,T8⟩:=LX.out;rw [hZ];clear hZ LX d0 d1 d2 d3 d4 kf k0 k1 k2 k3 k4 k5 k6 k7 k8 k9 k10;have TF:=zid T8.fin;obtain ⟨⟨k0,k1,k2,k3,k4⟩,k5,k6,k7,k8,k9,k10⟩:=zab T8.d;obtain ⟨⟨r0,r1,r2,r3,r4⟩,r5,r6,r7,r8,r9,r10⟩:=zab T8.r;have kr:=zaf T8.r;dsimp only at k0 k1 k2 k3 k4 k5 k6 k7 k8 k9 k10;clear T8;go_wp2_with fail;obtain ⟨Z3,hZ3,Z4,Z5⟩:=TF.out;rw [hZ3];obtain ⟨⟨s0,s1,s2,s3,s4⟩,s5,s6,s7,s8,s9,s10⟩:=zab Z4
       refine bodyPost_ret (v:= .tuple #[zag (.slice a8 n8 c8) (.slice (some ⟨gb,goff,none⟩) n4 c4) {T with d:=D7},.int .i64 E7]) (by unfold zag;simp [results,Tryz.results42,go_sem,s0,s1,s2,s3,s4,s5,s6,s7,s8,s9,s10]) rfl ?_
       rw [HR2.out];exact ⟨_,_,_,_,_,_,rfl,Z5⟩
theorem zjk {S:St} {k:Nat} (hn:S.g≠[]) (hB:Stb S) (hS:Bd S.d k) (hk:k<=70000) (hver:S.v<1152921504606846976):
 Bd (roll S).1.d (k+8)/\Stb (roll S).1/\(roll S).1.g≠[]/\(roll S).1.x=S.x:=by
 have stb:∀T:St,Bd T.d (k+8)->0<=T.v->T.v<=S.v+1->T.g.length<=1000->(∀g∈T.g,g∈S.g\/g=⟨S.x,0,0⟩)->T.x=S.x->(T.s=S.x\/T.s=S.s)->T.z=S.z->T.c=S.c->Stb T:=fun T h1 h2 h3 h4 h5 h6 h7 h8 h9=>by
  have h0:=hB.x;refine ⟨zaM h1 (by omega),⟨h2,by omega⟩,h4,fun g hg=>?_,by rw [h6];exact hB.x,?_,by rw [h8];exact hB.z,by rw [h9];exact hB.c⟩
  · rcases h5 g hg with h | h
    · exact hB.g g h
    · subst h
      exact ⟨hB.x,⟨by show (0:Int)<=0;omega,by show (0:Int)<=1152921504606846976;omega⟩,⟨by show (0:Int)<=0;omega,by show (0:Int)<=1152921504606846976;omega⟩⟩
  · rcases h7 with h | h
    · rw [h];exact hB.x
    · rw [h];exact hB.s
 have hv:=hB.v
 by_cases h64:64<=S.g.length
 · rw [zel h64]
   exact ⟨hS.mono (by omega),hB,hn,rfl⟩
 obtain ⟨⟨T,E0⟩,hT⟩:∃R,zat S=R:=⟨_,rfl⟩;obtain ⟨t1,t2,t3,t4,t5,t6,t7⟩:=zc9 S hS hT
 have same:∀D:Dp.Dk,Bd D (k+8)->Bd ({T with d:=D}:St).d (k+8)/\Stb {T with d:=D}/\({T with d:=D}:St).g≠[]/\({T with d:=D}:St).x=S.x:=fun D hD=>
  ⟨hD,stb _ hD (by show 0<=T.v;omega) (by show T.v<=_;omega) (by show T.g.length<=_;rw [t2];exact hB.n) (fun g hg=> .inl (by rw [<-t2];exact hg)) t3 t7 t5 t6,by show T.g≠[];rw [t2];exact hn,t3⟩
 by_cases hz:E0=0
 case neg=>
  rw [zej h64 hT hz];exact same T.d (t1.mono (by omega))
 subst hz;obtain ⟨⟨C1,E1⟩,hC⟩:∃R,Dp.create T.d (segN T.x)=R:=⟨_,rfl⟩;have b1:=zas t1 (segN T.x);rw [hC] at b1;dsimp only at b1
 by_cases hz:E1=0
 case neg=>
  rw [zdb h64 hT hC hz];exact same C1 (b1.mono (by omega))
 subst hz;obtain ⟨⟨W1,E2⟩,hW⟩:∃R,swap C1 (man (more T C1))=R:=⟨_,rfl⟩;have b2:=zb9 b1 (man (more T C1));rw [hW] at b2;dsimp only at b2
 by_cases h9:E2=9
 · subst h9
   obtain ⟨⟨X1,E3⟩,hX⟩:∃R,Dp.delete W1 (segN T.x)=R:=⟨_,rfl⟩
   have b3:=zam b2 (segN T.x);rw [hX] at b3;dsimp only at b3;rw [zek h64 hT hC hW hX];exact same X1 (b3.mono (by omega))
 by_cases hz:E2=0
 case neg=>
  rw [zfv h64 hT hC hW h9 hz];exact same W1 (b2.mono (by omega))
 subst hz;rw [zhD h64 hT hC hW];refine ⟨b2.mono (by omega),stb _ (b2.mono (by omega)) (by show 0<=T.v+1;omega) (by show T.v+1<=_;omega) ?_ ?_ t3 t7 t5 t6,?_,t3⟩
 · show (T.g++[_]).length<=1000
   rw [List.length_append,t2];simp;omega
 · intro g hg
   rcases List.mem_append.1 (show g∈T.g++[⟨T.x,0,0⟩] from hg) with hg | hg
   · exact .inl (by rw [<-t2];exact hg)
   · rw [List.mem_singleton] at hg
     rw [t3] at hg
     exact .inr hg
 · show T.g++[_]≠[]
   simp
structure RollF (S T:St) (k:Nat):Prop where
 d:Bd T.d k
 v0:S.v<=T.v
 v1:T.v<=S.v+1
 n:T.g.length<=S.g.length+1
 g:∀g∈T.g,g∈S.g\/g=⟨S.x,0,0⟩
 x:T.x=S.x
 s:T.s=S.x\/T.s=S.s
 z:T.z=S.z
 c:T.c=S.c
 ne:T.g≠[]
theorem roll_raw {S:St} {k:Nat} (hn:S.g≠[]) (hS:Bd S.d k):RollF S (roll S).1 (k+8):=by
 by_cases h64:64<=S.g.length
 · rw [zel h64]
   exact ⟨hS.mono (by omega),Int.le_refl _,by show S.v<=S.v+1;omega,by show S.g.length<=_;omega,fun g hg=> .inl hg,rfl,.inr rfl,rfl,rfl,hn⟩
 obtain ⟨⟨T,E0⟩,hT⟩:∃R,zat S=R:=⟨_,rfl⟩;obtain ⟨t1,t2,t3,t4,t5,t6,t7⟩:=zc9 S hS hT
 have same:∀D:Dp.Dk,Bd D (k+8)->RollF S {T with d:=D} (k+8):=fun D hD=>
  ⟨hD,by show S.v<=T.v;omega,by show T.v<=_;omega,by show T.g.length<=_;rw [t2];omega,fun g hg=> .inl (by rw [<-t2];exact hg),t3,t7,t5,t6,by show T.g≠[];rw [t2];exact hn⟩
 by_cases hz:E0=0
 case neg=>
  rw [zej h64 hT hz];exact same T.d (t1.mono (by omega))
 subst hz;obtain ⟨⟨C1,E1⟩,hC⟩:∃R,Dp.create T.d (segN T.x)=R:=⟨_,rfl⟩;have b1:=zas t1 (segN T.x);rw [hC] at b1;dsimp only at b1
 by_cases hz:E1=0
 case neg=>
  rw [zdb h64 hT hC hz];exact same C1 (b1.mono (by omega))
 subst hz;obtain ⟨⟨W1,E2⟩,hW⟩:∃R,swap C1 (man (more T C1))=R:=⟨_,rfl⟩;have b2:=zb9 b1 (man (more T C1));rw [hW] at b2;dsimp only at b2
 by_cases h9:E2=9
 · subst h9
   obtain ⟨⟨X1,E3⟩,hX⟩:∃R,Dp.delete W1 (segN T.x)=R:=⟨_,rfl⟩
   have b3:=zam b2 (segN T.x);rw [hX] at b3;dsimp only at b3;rw [zek h64 hT hC hW hX];exact same X1 (b3.mono (by omega))
 by_cases hz:E2=0
 case neg=>
  rw [zfv h64 hT hC hW h9 hz];exact same W1 (b2.mono (by omega))
 subst hz;rw [zhD h64 hT hC hW];refine ⟨b2.mono (by omega),by show S.v<=T.v+1;omega,by show T.v+1<=_;omega,?_,?_,t3,t7,t5,t6,?_⟩
 · show (T.g++[_]).length<=_
   rw [List.length_append,t2];simp
 · intro g hg
   rcases List.mem_append.1 (show g∈T.g++[⟨T.x,0,0⟩] from hg) with hg | hg
   · exact .inl (by rw [<-t2];exact hg)
   · rw [List.mem_singleton] at hg
     rw [t3] at hg
     exact .inr hg
 · show T.g++[_]≠[]
   simp
structure Gd (S:St) (k:Nat):Prop where
 d:Bd S.d (10*k)
 v:0<=S.v/\S.v<=k
 n:S.g.length<=k
 ne:S.g≠[]
 g:∀g∈S.g,(0<=g.b/\g.b<=k)/\(0<=g.n/\g.n<=k)/\(0<=g.z/\g.z<=100*k)
 x:0<=S.x/\S.x<=k
 s:0<=S.s/\S.s<=k
 z:S.z=0
 c:S.c=0
theorem zlE {D:Dp.Dk} {k:Nat} (h:Bd D k) (hk:k+6<=10*1) (he:(zal D).2=0):Gd (zal D).1 1:=by
 have b1:=zas h (segN 0);unfold zal at he ⊢
 split
 · rename_i hc
   rw [if_pos hc] at he
   exact absurd he hc
 · rename_i hc
   rw [if_neg hc] at he
   have b2:=zb9 b1 (man ⟨(Dp.create D (segN 0)).1,1,[⟨0,0,0⟩],0,0,0,0⟩);dsimp only at he ⊢
   split
   · rename_i hw
     rw [if_pos hw] at he
     exact absurd he hw
   · exact ⟨b2.mono (by omega),⟨show (0:Int)<=1 by decide,show (1:Int)<=((1:Nat):Int) by decide⟩,show 1<=1 by decide,by simp,fun g hg=>by
      obtain rfl:g=⟨0,0,0⟩:=by simpa using hg
      exact ⟨⟨show (0:Int)<=0 by decide,show (0:Int)<=((1:Nat):Int) by decide⟩,⟨show (0:Int)<=0 by decide,show (0:Int)<=((1:Nat):Int) by decide⟩,show (0:Int)<=0 by decide,show (0:Int)<=100*((1:Nat):Int) by decide⟩,⟨show (0:Int)<=0 by decide,show (0:Int)<=((1:Nat):Int) by decide⟩,⟨show (0:Int)<=0 by decide,show (0:Int)<=((1:Nat):Int) by decide⟩,rfl,rfl⟩
end Sto
end Go.Proofs.YtgmppfpllogdcaaGreat

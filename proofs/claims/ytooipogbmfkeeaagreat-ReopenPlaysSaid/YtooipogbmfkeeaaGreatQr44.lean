/-
  Parts of what the laws of this seat stand on:StoApp2,DiskRef10.
-/
import Derived.Test.YtooipogbmfkeeaaGreatQr1
import Derived.BigQuiet
import Derived.Deep.DeepCutAuto
import Derived.Deep.RegionWith
import Derived.IntWalk
import Derived.Test.YtooipogbmfkeeaaGreatQr17
import Derived.Test.YtooipogbmfkeeaaGreatQr18
import Derived.Test.YtooipogbmfkeeaaGreatQr30
set_option maxRecDepth 100000
set_option maxHeartbeats 6400000
namespace Go.Proofs.YtooipogbmfkeeaaGreat
namespace Sto
open Go.RowKit So Dsk Rts
theorem zlq {S:St} {m:Nat} (h:S.g.length=m+1):S.g.getD m Rt.zero=lastG S:=by unfold lastG;rw [h];rfl
theorem ok_fault {r:Rp.Rec} (h:¬Rp.Ok r):Rp.fault r≠0:=by
 rcases Rp.fault_cases r with h1 | h1
 · exact absurd h1.2 h
 · have:=h1.2;omega
theorem zdC (fa ga:Option Addr) (fn fc gn gc:Nat) (S:St) (q:Int) (r:Rp.Rec) (w:World) (k:Nat) (hv:IsL FL w (.slice fa fn fc) S.d.f) (hg:IsL Rts.SL w (.slice ga gn gc) S.g) (hn:S.g≠[]) (hB:Stb S) (hS:Bd S.d k) (hk:k<=70000) (hver:S.v<1152921504606846976) (hr:RecOk r):
 Calls Tryz.prog 21 #[zag (.slice fa fn fc) (.slice ga gn gc) S,.int .i64 q,za3 r] w (zdS w (.slice fa fn fc) (.slice ga gn gc) (append S q r)):=by
 have T0:=zid fun (W0:World)=> @Ta.new w (.slice fa fn fc) (.slice ga gn gc) S #[.int .i64 r.a,.int .i64 r.t,.string r.d] 49 W0 hv hg;have hgl:=hg.len.1
 have hgn:gn<=1000:=by rw [hgl];exact hB.n
 have hpos:0<S.g.length:=List.length_pos_iff.2 hn;obtain ⟨m,rfl⟩:∃m,gn=m+1:=⟨gn-1,by omega⟩;have HGL:=zid hgl;have RO:=zid fun (hx:S.x<=1099511627776) (W:World) (h1:IsL FL W (.slice fa fn fc) S.d.f) (h2:IsL Rts.SL W (.slice ga (m+1) gc) S.g)=>zkI fa ga fn fc (m+1) gc S W k h1 h2 hn hB hS (by omega) ⟨hB.x.1,hx⟩ hver;have RF:=zid (zjD hn hB hS hk hver);have HB:=zid hB;have HS:=zid hS;have HN:=zid hn;have HRO:=zid hr;have RR:=zid fun W:World=>zjB r W hr.d1;have HAP:=zid (append.eq_1 S q r);have hxb:=hB.x;obtain ⟨ra0,ra1,rt0,rt1,rd1⟩:=hr;clear hv hg hn hB hS hgl hpos;unfold zag at RO ⊢;unfold za3 at RR ⊢
 go_enter Tryz.func21,Tryz.ntmps21
 go_upto_region 1 with (fail);obtain ⟨w0,hW⟩:∃W0,((w.alloc (.cells #[.slice fa fn fc,.int .i64 S.d.c,.bool S.d.a,.int .i64 S.d.l,.bool S.d.x,.int .i64 S.v,.slice ga (m+1) gc,.int .i64 S.x,.int .i64 S.s,.int .i64 S.z,.int .u32 S.c] 30)).alloc (.cells #[.int .i64 r.a,.int .i64 r.t,.string r.d] 49)).alloc (.cells #[.slice none 0 0,.int .i64 0,.bool false,.int .i64 0,.bool false,.int .i64 0,.slice none 0 0,.int .i64 0,.int .i64 0,.int .i64 0,.int .u32 0] 30)=W0:=⟨_,rfl⟩;rw [hW];have T1:=T0.out w0 hW;clear T0 hW;obtain ⟨e0,e1,e2⟩:=cells3 T1.e;have TT:=zid T1;clear T1
 by_cases hok:Rp.Ok r
 case neg=>
  have HR:=zid (show append S q r=(S,1) from by rw [HAP.out,if_pos (fun h=>hok h.1)]);rw [zle (ok_fault hok)] at RR;clear hok;go_wp2_with fail;refine (RR.out _).mono ?_;rintro e w1 ⟨rfl,b1⟩;have T2:=TT.out.keep b1;clear b1 e0 e1 e2;obtain ⟨⟨k0,k1,k2,k3,k4⟩,k5,k6,k7,k8,k9,k10⟩:=zab T2.d;obtain ⟨⟨r0,r1,r2,r3,r4⟩,r5,r6,r7,r8,r9,r10⟩:=zab T2.q;have kr:=zah T2.q;have TF:=zid T2.fin;clear T2;go_wp2_with fail;obtain ⟨Z3,hZ3,Z4,Z5⟩:=TF.out;rw [hZ3];obtain ⟨⟨s0,s1,s2,s3,s4⟩,s5,s6,s7,s8,s9,s10⟩:=zab Z4;refine bodyPost_ret (v:= .tuple #[zag (.slice fa fn fc) (.slice ga (m+1) gc) S,.int .i64 1]) (by unfold zag;simp [results,Tryz.results21,go_sem,s0,s1,s2,s3,s4,s5,s6,s7,s8,s9,s10]) rfl ?_;rw [HR.out];exact ⟨_,_,_,_,_,_,rfl,Z5⟩
 have HOK:=zid hok;rw [zlc (Rp.fault_zero hok)] at RR;clear hok
 by_cases hat:r.a=S.x
 case neg=>
  have HR:=zid (show append S q r=(S,1) from by rw [HAP.out,if_pos (fun h=>hat h.2)])
  have hat':(r.a != S.x)=true:=by simpa using hat
  clear hat;go_wp2_with fail;refine (RR.out _).mono ?_;rintro e w1 ⟨rfl,b1⟩;have T2:=TT.out.keep b1;clear b1 e0 e1 e2;obtain ⟨e0,e1,e2⟩:=cells3 T2.e;obtain ⟨⟨k0,k1,k2,k3,k4⟩,k5,k6,k7,k8,k9,k10⟩:=zab T2.d;obtain ⟨⟨r0,r1,r2,r3,r4⟩,r5,r6,r7,r8,r9,r10⟩:=zab T2.q;have kr:=zah T2.q;have TF:=zid T2.fin;clear T2;go_wp2_with fail;obtain ⟨Z3,hZ3,Z4,Z5⟩:=TF.out;rw [hZ3];obtain ⟨⟨s0,s1,s2,s3,s4⟩,s5,s6,s7,s8,s9,s10⟩:=zab Z4;refine bodyPost_ret (v:= .tuple #[zag (.slice fa fn fc) (.slice ga (m+1) gc) S,.int .i64 1]) (by unfold zag;simp [results,Tryz.results21,go_sem,s0,s1,s2,s3,s4,s5,s6,s7,s8,s9,s10]) rfl ?_;rw [HR.out];exact ⟨_,_,_,_,_,_,rfl,Z5⟩
 have HAT:=zid hat
 have hat':(r.a != S.x)=false:=by simpa using hat
 clear hat;go_wp2_with fail;refine (RR.out _).mono ?_;rintro e w1 ⟨rfl,b1⟩;have T2:=TT.out.keep b1;clear b1 e0 e1 e2 TT RR;obtain ⟨e0,e1,e2⟩:=cells3 T2.e;obtain ⟨⟨k0,k1,k2,k3,k4⟩,k5,k6,k7,k8,k9,k10⟩:=zab T2.d;obtain ⟨⟨r0,r1,r2,r3,r4⟩,r5,r6,r7,r8,r9,r10⟩:=zab T2.q;have kr:=zah T2.q;have TT:=zid T2;clear T2
 by_cases hend:1099511627776<=S.x
 · have HR:=zid (show append S q r=(S,13) from by rw [HAP.out,if_neg (fun h=>h ⟨HOK.out,HAT.out⟩),if_pos hend])
   have TF:=zid TT.out.fin
   go_wp2_with fail;obtain ⟨Z3,hZ3,Z4,Z5⟩:=TF.out;rw [hZ3];obtain ⟨⟨s0,s1,s2,s3,s4⟩,s5,s6,s7,s8,s9,s10⟩:=zab Z4;refine bodyPost_ret (v:= .tuple #[zag (.slice fa fn fc) (.slice ga (m+1) gc) S,.int .i64 13]) (by unfold zag;simp [results,Tryz.results21,go_sem,s0,s1,s2,s3,s4,s5,s6,s7,s8,s9,s10]) rfl ?_;rw [HR.out];exact ⟨_,_,_,_,_,_,rfl,Z5⟩
 have HEN:=zid (show append S q r=(if q<=(lastG S).z then (if (roll S).2≠0 then roll S else put (roll S).1 r) else put S r) from by rw [HAP.out,if_neg (fun h=>h ⟨HOK.out,HAT.out⟩),if_neg hend])
 have hend':decide ((1099511627776:Int)<=S.x)=false:=by simpa using hend
 have hx1:S.x<=1099511627776:=by omega
 have RO2:=zid (RO.out hx1);have HLA:=zid (zlq HGL.out.symm);obtain ⟨gb,goff,rfl,g0,g1,g2⟩:=zck TT.out.g (Nat.lt_succ_self m);rw [HLA.out] at g0 g1 g2
 have hmw:IntKind.i64.wrap (((m+1:Nat):Int)-1)=(m:Int):=by
  rw [show ((m+1:Nat):Int)-1=(m:Int) from by omega];exact IntWalk.i64_in _ ⟨by omega,by omega⟩
 have hmw2:IntKind.i64.wrap (m:Int)=(m:Int):=IntWalk.i64_in _ ⟨by omega,by omega⟩;clear hend HAP RO
 go_upto_if 40 with (fail)
 go_cut [] (fun we=>∃T:St,Hid (append S q r=put T r/\Bd T.d (k+8)/\Stb T/\T.g≠[]/\T.x=S.x)/\TaR w (.slice fa fn fc) (.slice (some ⟨gb,goff,none⟩) (m+1) gc) (.cells #[.int .i64 r.a,.int .i64 r.t,.string r.d] 49) T we)
 case first=>
  by_cases hq:q<=(lastG S).z
  · obtain ⟨⟨T,E⟩,hT⟩:∃R,roll S=R:=⟨_,rfl⟩
    have RO3:=RO2.out _ TT.out.f TT.out.g
    rw [hT] at RO3;have RF2:=RF.out;rw [hT] at RF2;have HE:=zid (show append S q r=(if E≠0 then (T,E) else put T r) from by rw [HEN.out,if_pos hq,hT]);replace RF2:=zid RF2;replace RO3:=zid RO3;clear hT RO2 RF HEN;go_wp2_with fail;refine RO3.out.mono ?_;rintro e w2 ⟨a1,n1,c1,a2,n2,c2,rfl,ks⟩;have al:=(Below.refl w2.heap.size w2).alloc (Nat.le_refl _) (.cells #[.slice a1 n1 c1,.int .i64 T.d.c,.bool T.d.a,.int .i64 T.d.l,.bool T.d.x,.int .i64 T.v,.slice a2 n2 c2,.int .i64 T.x,.int .i64 T.s,.int .i64 T.z,.int .u32 T.c] 30);have X2:=heap_alloc_new w2 (.cells #[.slice a1 n1 c1,.int .i64 T.d.c,.bool T.d.a,.int .i64 T.d.l,.bool T.d.x,.int .i64 T.v,.slice a2 n2 c2,.int .i64 T.x,.int .i64 T.s,.int .i64 T.z,.int .u32 T.c] 30);have LR:=zid (TT.out.roll ks al);have LG:=zid (TT.out.gone ks al);have kf:=zah (hkeep (hkeep TT.out.d ks.w) al);have kr:=zah (hkeep (hkeep TT.out.q ks.w) al);clear k0 k1 k2 k3 k4 k5 k6 k7 k8 k9 k10 r0 r1 r2 r3 r4 r5 r6 r7 r8 r9 r10 e0 e1 e2 g0 g1 g2;obtain ⟨⟨k0,k1,k2,k3,k4⟩,k5,k6,k7,k8,k9,k10⟩:=zab (hkeep (hkeep TT.out.d ks.w) al);obtain ⟨⟨r0,r1,r2,r3,r4⟩,r5,r6,r7,r8,r9,r10⟩:=zab (hkeep (hkeep TT.out.q ks.w) al);obtain ⟨⟨x0,x1,x2,x3,x4⟩,x5,x6,x7,x8,x9,x10⟩:=zab X2;clear al X2 ks;unfold zag
    by_cases hz:E=0
    · subst hz
      go_wp2_with fail
      obtain ⟨Z,hZ,Z1⟩:=LR.out;rw [hZ];go_meet
      case rel=>exact ⟨T,⟨HE.out,RF2.out⟩,_,_,_,_,_,_,Z1⟩
    · have HR:=zid (show append S q r=(T,E) from by rw [HE.out,if_pos hz])
      have hz':=ne_b hz
      clear hz;go_wp2_with fail;obtain ⟨Z3,hZ3,Z4,Z5⟩:=LG.out;rw [hZ3];obtain ⟨⟨s0,s1,s2,s3,s4⟩,s5,s6,s7,s8,s9,s10⟩:=zab Z4;refine bodyPost_ret (v:= .tuple #[zag (.slice a1 n1 c1) (.slice a2 n2 c2) T,.int .i64 E]) (by unfold zag;simp [results,Tryz.results21,go_sem,s0,s1,s2,s3,s4,s5,s6,s7,s8,s9,s10]) rfl ?_;rw [HR.out];exact ⟨_,_,_,_,_,_,rfl,Z5⟩
  · have HE:=zid (show append S q r=put S r from by rw [HEN.out,if_neg hq])
    go_wp2_with fail
    go_meet
    case rel=>exact ⟨S,⟨HE.out,HS.out.mono (by omega),HB.out,HN.out,rfl⟩,_,_,_,_,_,_,TT.out⟩
 case rest=>
  clear k0 k1 k2 k3 k4 k5 k6 k7 k8 k9 k10 r0 r1 r2 r3 r4 r5 r6 r7 r8 r9 r10 kr e0 e1 e2 g0 g1 g2 TT RO2 RF HEN HLA;obtain ⟨T,HQ,a1,n1,c1,a2,n2,c2,T5⟩:=hcut;obtain ⟨HAQ,HBT,HTB,HTN,HTX⟩:=HQ.out;clear HQ;have RP:=zid fun W:World=>zhQ r W HOK.out;unfold za3 ziR at RP;rw [Rp.fault_zero HOK.out] at RP
  have hsz:(⟨(Rp.putB r).toArray⟩:ByteArray).size<=3000:=by
   rw [zam];have:=Rp.putB_le r;omega
  have RL:=zid fun (W:World) (h:IsL Rts.SL W (.slice a2 n2 c2) T.g)=>zgD (.slice a1 n1 c1) (.slice a2 n2 c2) T W h HTN HTB;have RA:=fun (W:World) (n:ByteArray) (h:IsL FL W (.slice a1 n1 c1) T.d.f)=>zep HBT (by omega) n ⟨(Rp.putB r).toArray⟩ hsz h;obtain ⟨⟨D1,E1⟩,hR⟩:∃R,Dp.append T.d (segN (lastG T).b) ⟨(Rp.putB r).toArray⟩=R:=⟨_,rfl⟩;have RN:=fun (W:World) (h:IsL FL W (.slice a1 n1 c1) T.d.f)=>RA W (segN (lastG T).b) h;rw [hR] at RN
  have HPU:=zid (show append S q r=(if E1≠0 then ({T with d:=D1},E1) else ({T with d:=D1,g:=grown T.g (Rp.putB r).length,x:=T.x+1},0)) from by
   rw [HAQ];unfold put;dsimp only
   rw [hR])
  have HPL:=zid (Rp.putB_le r);have HSB:=zid (zam (Rp.putB r));unfold zag at RL;unfold zac at RN;replace RN:=zid RN;clear hR RA HAQ hsz;generalize hPB:(⟨(Rp.putB r).toArray⟩:ByteArray)=pb at*;generalize hPL:(Rp.putB r).length=pl at*;clear hPB hPL;generalize segN (lastG T).b=nn at*;obtain ⟨e0,e1,e2⟩:=cells3 T5.e;obtain ⟨⟨k0,k1,k2,k3,k4⟩,k5,k6,k7,k8,k9,k10⟩:=zab T5.d;have HTX2:=zid HTX;have HTN2:=zid HTN;have HTB2:=zid HTB;replace HBT:=zid HBT;clear HTX HTN HTB;go_wp2_with fail;refine (RP.out _).mono ?_;rintro e w3 ⟨rfl,b3⟩;have T6:=T5.keep b3;clear b3 T5 k0 k1 k2 k3 k4 k5 k6 k7 k8 k9 k10 e0 e1 e2 RP;obtain ⟨⟨k0,k1,k2,k3,k4⟩,k5,k6,k7,k8,k9,k10⟩:=zab T6.d;have klt:=T6.lt;have TT:=zid T6;clear T6
  have hb0:w.heap.size<w3.heap.size:=by omega
  clear klt;go_upto_region 11 with (fail)
  go_cut [12,13] (fun p e we=>∃t:Nat,p= .pointer (some ⟨t,0,none⟩)/\e= .int .i64 E1/\TdR w w.heap.size (.slice fa fn fc) (.slice (some ⟨gb,goff,none⟩) (m+1) gc) (.slice a1 n1 c1) (.slice a2 n2 c2) (.cells #[.int .i64 r.a,.int .i64 r.t,.string r.d] 49) T D1 t we)
  case first=>
   go_region_held3 (fun W=>(∀b o,b<w3.heap.size->W.cell? ⟨b,o,none⟩=w3.cell? ⟨b,o,none⟩)/\Below w3.heap.size w3 W) (first | with_reducible assumption | with_reducible exact KW.dr _ | with_reducible exact KW.al5 (by assumption) | with_reducible exact KW.al (by assumption) | with_reducible exact KW.ad (KW.start _) | with_reducible exact KW.ad (by assumption) | with_reducible exact KW.st5 (by assumption) (by assumption) | with_reducible exact KW.keep (by assumption) (Below.refl _ _).drew | with_reducible exact KW.keep (by assumption) (by assumption)) (first | (go_at_call 46;refine (RL.out _ (by first | exact TT.out.g.keep (KW.bel (by assumption)) | exact TT.out.g.keep (Below.refl _ _).drew)).mono ?_;rintro e w4 ⟨rfl,b4⟩;have h4:w3.heap.size<=w4.heap.size:=Nat.le_trans (by first | exact Nat.le_refl _ | exact zb4 _ _) b4.size;(first | (with_reducible have z4:=hkeep (zbg _ _ _) b4;have y4:w3.heap.size<w4.heap.size:=Nat.lt_of_lt_of_le (zbP _ _) b4.size;have x4:w3.heap.size<=w3.heap.size:=Nat.le_refl _) | skip)) | (go_at_call 45;refine (RN.out _ (by first | exact TT.out.f.keep (KW.bel (by assumption)) | exact TT.out.f.keep (Below.refl _ _).drew)).mono ?_;rintro e w5 ⟨a5,n5,c5,rfl,k5'⟩;have q5:=k5'.w;have s5:=KW.keep (by assumption) q5;have q4:=KW.at (by assumption) q5;(first | (with_reducible have z5:=hkeep (heap_alloc_new _ _) q5) | (with_reducible have z5:=hkeep z4 q5) | skip);(first | (have zc:=zaa z5;have zf:=zae z5;obtain ⟨y0,y1,y2,y3,y4⟩:=zc;obtain ⟨yf0,yf1,yf2,yf3,yf4⟩:=zf) | skip);unfold zac))
   all_goals
    rename_i hh
    clear hh s5;go_wp2_with fail;go_meet
    case rel=>
     first
      | (refine ⟨_,rfl,rfl,?_⟩;with_reducible exact TdR.A TT.out q4 k5')
      | (refine ⟨_,rfl,rfl,?_⟩;with_reducible exact TdR.B TT.out q4 k5' z5 (by assumption) (by first | assumption | simp))
  case rest=>
   clear k0 k1 k2 k3 k4 k5 k6 k7 k8 k9 k10 TT RL RN hb0;obtain ⟨t,rfl,rfl,a7,n7,c7,Y⟩:=hcut;obtain ⟨d0,d1,d2,d3,d4⟩:=zaa Y.d;obtain ⟨⟨k0,k1,k2,k3,k4⟩,k5,k6,k7,k8,k9,k10⟩:=zab Y.y.d;have kf:=zah Y.y.d;have LY:=zid (Y.y.disk Y.f Y.s Y.k);clear Y
   go_upto_if 68 with (fail)
   obtain ⟨Z,hZ,T7⟩:=LY.out;rw [hZ];clear hZ LY d0 d1 d2 d3 d4 kf k0 k1 k2 k3 k4 k5 k6 k7 k8 k9 k10
   by_cases hz:E1=0
   case neg=>
    have HR:=zid (show append S q r=({T with d:=D1},E1) from by rw [HPU.out,if_pos hz])
    have hz':=ne_b hz;clear hz;obtain ⟨⟨k0,k1,k2,k3,k4⟩,k5,k6,k7,k8,k9,k10⟩:=zab T7.d;obtain ⟨⟨r0,r1,r2,r3,r4⟩,r5,r6,r7,r8,r9,r10⟩:=zab T7.q;have kr:=zah T7.q;have TF:=zid T7.fin;clear T7;go_wp2_with fail;obtain ⟨Z3,hZ3,Z4,Z5⟩:=TF.out;rw [hZ3];obtain ⟨⟨s0,s1,s2,s3,s4⟩,s5,s6,s7,s8,s9,s10⟩:=zab Z4
    refine bodyPost_ret (v:= .tuple #[zag (.slice a7 n7 c7) (.slice a2 n2 c2) {T with d:=D1},.int .i64 E1]) (by unfold zag;simp [results,Tryz.results21,go_sem,s0,s1,s2,s3,s4,s5,s6,s7,s8,s9,s10]) rfl ?_
    rw [HR.out];exact ⟨_,_,_,_,_,_,rfl,Z5⟩
   subst hz
   have HR:=zid (show append S q r=({T with d:=D1,g:=grown T.g pl,x:=T.x+1},0) from HPU.out)
   clear HPU;have hgl2:=T7.g.len.1;dsimp only at hgl2;have hp2:0<T.g.length:=List.length_pos_iff.2 HTN2.out;obtain ⟨m2,rfl⟩:∃m2,n2=m2+1:=⟨n2-1,by omega⟩;have HM2:=zid hgl2.symm;obtain ⟨gb2,goff2,rfl,_,_,_⟩:=zck T7.g (Nat.lt_succ_self m2);obtain ⟨i0,hi0,hz0,hz1,hz2⟩:=info_parts zex
   have hm2:m2+1<=1000:=by rw [hgl2];exact HTB2.out.n
   have al0:=(Below.refl Z.heap.size Z).alloc (Nat.le_refl _) (.cells #[] 75);have HNW:=zid (show ∀j u,(Rts.SL.vals T.g)[j]?=some u->(Z.alloc (.cells #[] 75)).cell? ((⟨gb2,goff2,none⟩:Addr).add j)=some u from (T7.g.keep al0).news);have HL1:=zid (show (Rts.SL.vals T.g).length=(m2+1)*3 by rw [Lay.vals_len, <-hgl2];rfl);have HC1:=zid (show ∀u∈Rts.SL.vals T.g,u.oneCell'=true from Rts.SL.vals_cells _);have HLT:=zid (show T.g.getD m2 Rt.zero=lastG T from zlq hgl2.symm);have HLG:=HTB2.out.g (lastG T) (by rw [<-HLT.out,zao (by omega)];exact List.getElem_mem _)
   have hmv:IntKind.i64.wrap (((m2+1:Nat):Int)-1)=(m2:Int):=by
    rw [show ((m2+1:Nat):Int)-1=(m2:Int) from by omega];exact IntWalk.i64_in _ ⟨by omega,by omega⟩
   have hmv2:IntKind.i64.wrap (m2:Int)=(m2:Int):=IntWalk.i64_in _ ⟨by omega,by omega⟩;have TZ:=zid T7;obtain ⟨xs1,hxs⟩:∃xs,Rts.SL.vals T.g=xs:=⟨_,rfl⟩;rw [hxs] at HNW HL1 HC1;have HXS:=zid hxs;obtain ⟨⟨k0,k1,k2,k3,k4⟩,k5,k6,k7,k8,k9,k10⟩:=zab (hkeep T7.d al0);clear T7 hgl2 hp2 al0 hxs
   have HFO:=zid (show ∀v3 w4,w4.ownsRow Z.heap.size 75 3 v3 (0+(m2+1)) ([]++xs1)->(Z.alloc (.cells #[] 75)).grownBy w4 (some Z.heap.size)->∃p cap3,v3= .slice (some ⟨p,0,none⟩) (m2+1) cap3/\Tg w w.heap.size (.slice fa fn fc) (.slice (some ⟨gb,goff,none⟩) (m+1) gc) (.slice a7 n7 c7) p (m2+1) cap3 {T with d:=D1} (w4.setCell ⟨w.heap.size,6,none⟩ (.slice (some ⟨p,0,none⟩) (m2+1) cap3))/\w4.heap[w.heap.size]?=some (.cells #[.slice a7 n7 c7,.int .i64 ({T with d:=D1}:St).d.c,.bool ({T with d:=D1}:St).d.a,.int .i64 ({T with d:=D1}:St).d.l,.bool ({T with d:=D1}:St).d.x,.int .i64 ({T with d:=D1}:St).v,.slice (some ⟨gb2,goff2,none⟩) (m2+1) c2,.int .i64 ({T with d:=D1}:St).x,.int .i64 ({T with d:=D1}:St).s,.int .i64 ({T with d:=D1}:St).z,.int .u32 ({T with d:=D1}:St).c] 30 (0,0)) from fun v3 w4 hown hgrow=>by
    rw [Nat.zero_add,List.nil_append] at hown
    have B3:=((Below.refl Z.heap.size Z).alloc (Nat.le_refl _) (.cells #[] 75)).grown hgrow (by simp) (fun q hq=>by injection hq with hq;omega)
    rcases hown.2 with ⟨_,h0⟩ | ⟨g3,cap3,cur3,rfl,_⟩
    · omega
    · have HO3:OwnL Rts.SL w4 Z.heap.size (.slice (some ⟨g3,0,none⟩) (m2+1) cap3) T.g:=by
       unfold OwnL;rw [HM2.out,HXS.out];exact hown
      exact ⟨g3,cap3,rfl,TZ.out.own B3 HO3,hkeep TZ.out.d B3⟩)
   go_upto_region 16 with (at_builtin;refine wpList_append_own _ rfl _ _ 27 rfl Z.heap.size 75 i0 (.agg #[.int .i64 0,.int .i64 0,.int .i64 0]) 3 24 Tryz.underlying27 hi0 hz0 hz1 hz2 rfl (by decide) _ 0 [] rfl (zbX (heap_alloc_new Z _) (Nat.le_refl _)) ⟨gb2,goff2,none⟩ (m2+1) c2 xs1 rfl HL1.out HNW.out HC1.out (by unfold maxLen;omega) (by omega) (by simp) ?_;intro v3 w4 hown3 hgrow3 hnil3;obtain ⟨g3,cap3,rfl,hTg,hrow⟩:=HFO.out _ _ hown3 hgrow3;have LG:=zid hTg;obtain ⟨⟨u0,u1,u2,u3,u4⟩,u5,u6,u7,u8,u9,u10⟩:=zab hrow;have uf:=zah hrow;clear hown3 hgrow3 hnil3 hTg hrow)
   clear k0 k1 k2 k3 k4 k5 k6 k7 k8 k9 k10 u0 u1 u2 u3 u4 u5 u6 u7 u8 u9 u10 uf HFO TZ HNW HL1 HC1 hi0 hz0 hz1 hz2;have G1:=LG.out;generalize w4.setCell _ _=W4 at G1 ⊢;clear LG
   have hgm:m2<T.g.length:=by rw [HM2.out];omega
   obtain ⟨⟨k0,k1,k2,k3,k4⟩,k5,k6,k7,k8,k9,k10⟩:=zab G1.d;obtain ⟨g0,g1,g2⟩:=G1.at_ (i:=m2) hgm;have gf:=G1.froz (m2*3+1);dsimp only at g0 g1 g2
   have hTd:({T with d:=D1}:St).g.getD m2 Rt.zero=lastG T:=HLT.out
   rw [HLT.out] at g0 g1 g2;have hLn:=HLG.2.1;have hLz:=HLG.2.2;have hwn:IntKind.i64.wrap ((lastG T).n+1)=(lastG T).n+1:=IntWalk.i64_in _ ⟨by omega,by omega⟩;have LN:=zid (G1.setN (i:=m2) hgm ((lastG T).n+1));clear G1 hTd;go_upto_region 18 with (fail);have G2:=LN.out;generalize W4.setCell _ _=W5 at G2 ⊢;clear LN k0 k1 k2 k3 k4 k5 k6 k7 k8 k9 k10 g0 g1 g2 gf hwn;dsimp only at G2
   have hgm2:m2<(T.g.set m2 ⟨(T.g.getD m2 Rt.zero).b,(lastG T).n+1,(T.g.getD m2 Rt.zero).z⟩).length:=by rw [List.length_set];exact hgm
   have GD:=zid G2.drew;obtain ⟨⟨k0,k1,k2,k3,k4⟩,k5,k6,k7,k8,k9,k10⟩:=zab GD.out.d;obtain ⟨g0,g1,g2⟩:=GD.out.at_ (i:=m2) hgm2;have gf:=GD.out.froz (m2*3+2);dsimp only at g2
   have hset:(T.g.set m2 ⟨(T.g.getD m2 Rt.zero).b,(lastG T).n+1,(T.g.getD m2 Rt.zero).z⟩).getD m2 Rt.zero=⟨(lastG T).b,(lastG T).n+1,(lastG T).z⟩:=by
    rw [HLT.out]
    simp [List.getD_eq_getElem?_getD,hgm]
   rw [hset] at g2;dsimp only at g2;have HZ2:=zid (GD.out.setZ (i:=m2) hgm2 ((lastG T).z+(pl:Int)))
   have hgr:(T.g.set m2 ⟨(T.g.getD m2 Rt.zero).b,(lastG T).n+1,(T.g.getD m2 Rt.zero).z⟩).set m2 ⟨((T.g.set m2 ⟨(T.g.getD m2 Rt.zero).b,(lastG T).n+1,(T.g.getD m2 Rt.zero).z⟩).getD m2 Rt.zero).b,((T.g.set m2 ⟨(T.g.getD m2 Rt.zero).b,(lastG T).n+1,(T.g.getD m2 Rt.zero).z⟩).getD m2 Rt.zero).n,(lastG T).z+(pl:Int)⟩=grown T.g pl:=by
    rw [hset,List.set_set];unfold grown;rw [show T.g.length-1=m2 from by rw [HM2.out];rfl,HLT.out]
   have HPL2:=HPL.out;have HSB2:=HSB.out;have hwz:IntKind.i64.wrap ((lastG T).z+(pl:Int))=(lastG T).z+(pl:Int):=IntWalk.i64_in _ ⟨by omega,by omega⟩;dsimp only at HZ2;rw [hgr] at HZ2
   have hpbz:(pb.size:Int)=(pl:Int):=by omega
   clear hgr hset G2 GD g0 g1
   go_cut [] (fun we=>Tg w w.heap.size (.slice fa fn fc) (.slice (some ⟨gb,goff,none⟩) (m+1) gc) (.slice a7 n7 c7) g3 (m2+1) cap3 {T with d:=D1,g:=grown T.g pl} we)
   case first=>
    go_region
    go_wp2_with fail;go_meet
    case rel=>
     first
      | exact HZ2.out
      | (rw [HSB2] at*;exact HZ2.out)
   case rest=>
    have G3:=hcut;clear k0 k1 k2 k3 k4 k5 k6 k7 k8 k9 k10 g2 gf HZ2;obtain ⟨⟨k0,k1,k2,k3,k4⟩,k5,k6,k7,k8,k9,k10⟩:=zab G3.d;have kf:=zah G3.d;dsimp only at k0 k1 k2 k3 k4 k5 k6 k7 k8 k9 k10;have hxT:T.x=S.x:=HTX2.out;have hwx:IntKind.i64.wrap (T.x+1)=T.x+1:=IntWalk.i64_in _ ⟨by omega,by omega⟩;have LX:=zid (G3.next (T.x+1));clear G3 hxT;go_upto_region 20 with (fail);have G4:=LX.out;generalize wc.setCell _ _=W6 at G4 ⊢;clear k0 k1 k2 k3 k4 k5 k6 k7 k8 k9 k10 kf LX hwx;dsimp only at G4
    have hgo:∀g∈grown T.g pl,Rts.SL.ok g:=fun g hg=>by
     have hc:g∈T.g\/g=⟨(lastG T).b,(lastG T).n+1,(lastG T).z+(pl:Int)⟩:=by
      unfold grown at hg;rw [show T.g.length-1=m2 from by rw [HM2.out];rfl,HLT.out] at hg;exact List.mem_or_eq_of_mem_set hg
     rcases hc with hc | hc
     · have:=HTB2.out.g g hc
       exact ⟨⟨by omega,by omega⟩,⟨by omega,by omega⟩,⟨by omega,by omega⟩⟩
     · subst hc
       have:=HLG.1
       exact ⟨⟨by show _<=(lastG T).b;omega,by show (lastG T).b<=_;omega⟩,⟨by show _<=(lastG T).n+1;omega,by show (lastG T).n+1<=_;omega⟩,⟨by show _<=(lastG T).z+(pl:Int);omega,by show (lastG T).z+(pl:Int)<=_;omega⟩⟩
    have hgm3:(grown T.g pl).length<=maxLen:=by
     unfold grown;rw [List.length_set,HM2.out];unfold maxLen;omega
    have TF:=zid (G4.fin hgm3 hgo);obtain ⟨⟨k0,k1,k2,k3,k4⟩,k5,k6,k7,k8,k9,k10⟩:=zab G4.d;obtain ⟨⟨r0,r1,r2,r3,r4⟩,r5,r6,r7,r8,r9,r10⟩:=zab G4.q;have kr:=zah G4.q;dsimp only at k0 k1 k2 k3 k4 k5 k6 k7 k8 k9 k10;clear G4 hgo hgm3;go_wp2_with fail;obtain ⟨Z3,hZ3,Z4,Z5⟩:=TF.out;rw [hZ3];obtain ⟨⟨s0,s1,s2,s3,s4⟩,s5,s6,s7,s8,s9,s10⟩:=zab Z4
    refine bodyPost_ret (v:= .tuple #[zag (.slice a7 n7 c7) (.slice (some ⟨g3,0,none⟩) (m2+1) cap3) {T with d:=D1,g:=grown T.g pl,x:=T.x+1},.int .i64 0]) (by unfold zag;simp [results,Tryz.results21,go_sem,s0,s1,s2,s3,s4,s5,s6,s7,s8,s9,s10]) rfl ?_
    rw [HR.out];exact ⟨_,_,_,_,_,_,rfl,Z5⟩
end Sto
namespace Dsk
open Go.RowKit Dp
theorem zin (l:List Fl) (ks:List Int) {k:Nat} (h:k<l.length):(zaw l ks).take (k+1)=(zaw l ks).take k++[left (l.getD k zero) (zfg ks k)]:=by
 have hc:k<(zaw l ks).length:=by rw [zbz];exact h
 rw [List.take_succ_eq_append_getElem hc,zdQ l ks k h hc,zaF h]
theorem zjK (fv:Value) (D:Dk) (kv:Value) (ks:List Int) (w:World) (hv:IsL FL w fv D.f) (hS:Sm D) (hk:IsL KL w kv ks):
 Calls Tryz.prog 19 #[zac fv D,kv] w fun e w'=>∃v,e= .returned (zac v (crash D ks))/\OwnL FL w' w.heap.size v (zaw D.f ks)/\Below w.heap.size w w':=by
 obtain ⟨i0,hi0,hz0,hz1,hz2⟩:=info_parts zcD
 obtain ⟨fa,fn,fc,rfl⟩:∃a n c,fv= .slice a n c:=by obtain ⟨a,c,h,_⟩:=hv;exact ⟨a,_,c,h⟩
 obtain ⟨ka,kn,kc,rfl⟩:∃a n c,kv= .slice a n c:=by obtain ⟨a,c,h,_⟩:=hk;exact ⟨a,_,c,h⟩
 have HV:=zid hv;have HK:=zid hk;have HR:=zid hS.r.1;have HFB:=zid hS.flb;have HKN:=zid hk.len.1
 have hkn:kn<=9223372036854775807:=by have:=hk.len;unfold maxLen at this;omega
 have hfl:=hv.len.1;have hl:D.f.length<=1000000:=hS.n;obtain ⟨g0,g1,gb,gs⟩:=zaR w #[.slice fa fn fc,.int .i64 D.c,.bool D.a,.int .i64 D.l,.bool D.x] #[.slice none 0 0,.int .i64 0,.bool false,.int .i64 0,.bool false] 24 24;have G0:=zid g0;have G1:=zid g1;have GB:=zid gb;have GS:=zid gs;have HT:=zid fun k (hk:k<D.f.length)=>zin D.f ks hk;have HA:=zid (show ∀k,D.f.length<=k->(zaw D.f ks).take k=zaw D.f ks from fun k hk=>by rw [List.take_of_length_le (by rw [zbz];exact hk)]);have HLEN:=zid (show ∀k,((zaw D.f ks).take k).length<=k from fun k=>by rw [List.length_take];omega);obtain ⟨fl,dc,da,dl,dx⟩:=D;unfold crash;dsimp only at*;rw [<-hfl] at hl HT HA;have HFL:=zid hfl;clear hv hS hk g0 g1 gb gs hfl;unfold zac;dsimp only
 go_enter Tryz.func19,Tryz.ntmps19
 go_wp2_with fail;generalize World.alloc (World.alloc w _) _=w0 at G0 G1 GB GS ⊢
 go_loopw [5,6] (fun s i wr=>∃k:Nat,k<=fn/\i= .int .i64 k/\OwnL FL wr (w.heap.size+2) s ((zaw fl ks).take k)/\Below (w.heap.size+2) w0 wr) (fun _ i _=>fn-(intOf i).toNat)
 case atStart=>exact ⟨0,Nat.zero_le _,rfl,by rw [List.take_zero];exact OwnL.nil _ _,Below.refl _ _⟩
 case round=>
  obtain ⟨k,hk,rfl,hO,hB⟩:=hrel;have P0:wr.heap[w.heap.size]?=_:=(hB.block w.heap.size (by omega)).trans G0.out;obtain ⟨p0,p1,p2,p3,p4⟩:=zaa P0;have hwl:=(Array.getElem?_eq_some_iff.1 P0).1;have HO:=zid hO;have HB0:Below w.heap.size w wr:=GB.out.trans (hB.mono (by omega))
  by_cases hlt:k<fn
  · obtain ⟨b,off,rfl,c0,c1,c2⟩:=zb0 (HV.out.keep HB0) hlt
    have HTk:=HT.out k hlt
    have hlk:=HLEN.out k
    have hmem:fl.getD k zero∈fl:=by rw [zaF (by rw [<-HFL.out];exact hlt)];exact List.getElem_mem _
    have hok:=HR.out _ hmem;have hfb:=HFB.out _ hmem;generalize fl.getD k zero=f at*;obtain ⟨mo,hmo⟩:∃mo,zfg ks k=mo:=⟨_,rfl⟩;rw [hmo] at HTk;obtain ⟨m,hm1,hm2,hm3⟩:=left_val hok mo;rw [hm3] at HTk;obtain ⟨E,hE⟩:∃E,f.d.extract 0 m=E:=⟨_,rfl⟩
    have hEs:E.size=m:=by rw [<-hE,ByteArray.size_extract];omega
    rw [hE] at HTk;generalize (zaw fl ks).take k=L at*;replace HTk:=zid HTk;have hq0:=hok.2.1;have hq1:=hok.2.2;have hq2:=hfb.2.1;have hgl:=block_lt_of_cell c0
    have hws:w.heap.size+2<=wr.heap.size:=by have:=hB.size;have:=GS.out;omega
    obtain ⟨n1,d1,s1⟩:=f;dsimp only at*;have HF:Hid (∀v' w3,w3.ownsRow (w.heap.size+2) 45 3 v' (L.length+1) (FL.vals L++zaj ⟨n1,E,(m:Int)⟩)->OwnL FL w3 (w.heap.size+2) v' (L++[⟨n1,E,(m:Int)⟩])):=fun v' w3 h=>OwnL.snoc (n:=L.length) h rfl rfl;have H1:=zid (show ∀u∈zaj ⟨n1,E,(m:Int)⟩,u.oneCell'=true from FL.one _);have HLT:=zid fun k' (h:_)=>HO.out.lt k' h;clear hmem hok hfb hO hm3 P0
    by_cases hkk:k<kn
    · obtain ⟨b',off',rfl,hcell⟩:∃b' off',ka=some ⟨b',off',none⟩/\w.cell? ⟨b',off'+k,none⟩=some (.int .i64 (ks.getD k 0)):=by
       have hk':=HK.out;obtain ⟨a',cap',e,_,_,h3⟩:=HK.out
       injection e with e1 e2 e3
       rcases h3 with h3 | ⟨b,off,h4,_⟩
       · rw [h3] at e2;simp at e2;omega
       · subst e1
         subst h4
         exact ⟨b,off,rfl,kl_at hk' hkk⟩
      have x1:wr.cell? ⟨b',off'+k,none⟩=some (.int .i64 mo):=by rw [HB0.cell (p:=⟨b',off'+k,none⟩) (block_lt_of_cell hcell),hcell, <-hmo];rfl
      have xl:=block_lt_of_cell x1;obtain ⟨kp,hkp⟩:∃kp,zic ⟨n1,d1,s1⟩ mo=kp:=⟨_,rfl⟩;rw [hkp] at hm1;have hkv:max 0 (min mo ((d1.size:Int)-s1))=kp:=hkp
      have hkp0:0<=kp:=by rw [<-hkv];omega
      have HKV:=zid hkv;have HM1:=zid hm1;have G2:=zid (heap_alloc_new wr (.cells #[.string n1,.string d1,.int .i64 s1] 45));have B2:=zid ((Below.refl _ wr).alloc (Nat.le_refl _) (.cells #[.string n1,.string d1,.int .i64 s1] 45));have S2:=zid (show (wr.alloc (.cells #[.string n1,.string d1,.int .i64 s1] 45)).heap.size=wr.heap.size+1 by simp);clear hcell hkp hkv hm1 hmo;go_wp2_with fail;generalize wr.alloc _=w1 at G2 B2 S2 ⊢
      have hw1:wr.heap.size<w1.heap.size:=by rw [S2.out];omega
      have x1':=(B2.out.cell (p:=⟨b',off'+k,none⟩) xl).trans x1;obtain ⟨d0,d1',d2⟩:=cells3 G2.out;have xl1:=block_lt_of_cell x1';have hww:IntKind.i64.wrap ((d1.size:Int)-s1)=(d1.size:Int)-s1:=IntWalk.i64_in _ ⟨by omega,by omega⟩
      go_cut [8] (fun v w2=>v= .int .i64 kp/\Below w1.heap.size w1 w2)
      case first=>
       go_region
       all_goals go_wp2_with fail
       all_goals go_meet
       all_goals
        case rel=>exact ⟨congrArg (Value.int .i64) HKV.out,by first | exact (Below.refl _ _).drew | exact zad _⟩
      case rest=>
       obtain ⟨rfl,hbc⟩:=hcut;have hh:=hkeep G2.out hbc;have b2:=B2.out.trans (hbc.mono B2.out.size);clear x1 x1' xl xl1 hww d0 d1' d2 hbc;obtain ⟨d0,d1',d2⟩:=cells3 hh;obtain ⟨e0,e1,e2⟩:=zce hh;have hol:wr.heap.size<wc.heap.size:=(Array.getElem?_eq_some_iff.1 hh).1;have hm1:=HM1.out
       have hmb:s1+kp<=9223372036854775807:=by omega
       have HBC:=zid b2;clear b2 hh;have HB2:=zid (show Below wr.heap.size wr ((wc.setCell ⟨wr.heap.size,1,none⟩ (.string E)).setCell ⟨wr.heap.size,2,none⟩ (.int .i64 (m:Int))) from (HBC.out.setCell (p:=⟨wr.heap.size,1,none⟩) (Nat.le_refl _) (.string E)).setCell (p:=⟨wr.heap.size,2,none⟩) (Nat.le_refl _) (.int .i64 (m:Int)));have HOX:=zid (show (((wc.setCell ⟨wr.heap.size,1,none⟩ (.string E)).setCell ⟨wr.heap.size,2,none⟩ (.int .i64 (m:Int))).alloc (.cells (zaj ⟨n1,E,(m:Int)⟩).toArray 45)).ownsRow (w.heap.size+2) 45 3 u5 L.length (FL.vals L) from (HO.out.keep HB2.out).alloc _);have HNEW:=zid (zas ((wc.setCell ⟨wr.heap.size,1,none⟩ (.string E)).setCell ⟨wr.heap.size,2,none⟩ (.int .i64 (m:Int))) (wc.heap.size) (zaj ⟨n1,E,(m:Int)⟩) 45 (by simp));have HBW:=zid ((hB.trans (HB2.out.mono (by have:=hB.size;have:=GS.out;omega))).alloc (by simp;have:=hB.size;have:=GS.out;omega) (.cells (zaj ⟨n1,E,(m:Int)⟩).toArray 45))
       skip
       generalize hxs:FL.vals L=xs at*;generalize hll:L.length=ll at*;clear hxs hll
       go_wp2_with (at_builtin;refine wpList_append_own _ rfl _ _ 22 rfl (w.heap.size+2) 45 i0 (.agg #[.string ByteArray.empty,.string ByteArray.empty,.int .i64 0]) 3 40 Tryz.underlying22 hi0 hz0 hz1 hz2 rfl (by decide) _ _ _ rfl HOX.out ⟨wc.heap.size,0,none⟩ 1 1 (zaj ⟨n1,E,(m:Int)⟩) rfl rfl HNEW.out H1.out (by unfold maxLen;omega) (by omega) (by simp;omega) ?_;intro v' w3 hown' hgrow3 hnil3)
       go_roundw
       case rel=>
        exact ⟨k+1,by omega,by go_num,by rw [HTk.out];exact HF.out v' w3 hown',HBW.out.grown hgrow3 (by simp;omega) (fun q hq=>(HLT.out q hq).1)⟩
       case measure=>simp [intOf];omega
    · obtain rfl:mo=0:=by
       rw [<-hmo];unfold zfg;rw [List.getD_eq_getElem?_getD,List.getElem?_eq_none (by rw [<-HKN.out];omega)]
       rfl
      obtain rfl:s1=(m:Int):=by unfold zic at hm1;dsimp only at hm1;omega
      clear hmo hm1;have HB2:=zid (show Below wr.heap.size wr (wr.alloc (.cells #[.string n1,.string E,.int .i64 (m:Int)] 45)) from (Below.refl _ wr).alloc (Nat.le_refl _) _);have HOX:=zid (show ((wr.alloc (.cells #[.string n1,.string E,.int .i64 (m:Int)] 45)).alloc (.cells (zaj ⟨n1,E,(m:Int)⟩).toArray 45)).ownsRow (w.heap.size+2) 45 3 u5 L.length (FL.vals L) from (HO.out.keep HB2.out).alloc _);have HNEW:=zid (zas (wr.alloc (.cells #[.string n1,.string E,.int .i64 (m:Int)] 45)) (wr.heap.size+1) (zaj ⟨n1,E,(m:Int)⟩) 45 (by simp));have HBW:=zid ((hB.trans (HB2.out.mono (by have:=hB.size;have:=GS.out;omega))).alloc (by simp;have:=hB.size;have:=GS.out;omega) (.cells (zaj ⟨n1,E,(m:Int)⟩).toArray 45))
      skip
      generalize hxs:FL.vals L=xs at*;generalize hll:L.length=ll at*;clear hxs hll
      go_wp2_with (at_builtin;refine wpList_append_own _ rfl _ _ 22 rfl (w.heap.size+2) 45 i0 (.agg #[.string ByteArray.empty,.string ByteArray.empty,.int .i64 0]) 3 40 Tryz.underlying22 hi0 hz0 hz1 hz2 rfl (by decide) _ _ _ rfl HOX.out ⟨wr.heap.size+1,0,none⟩ 1 1 (zaj ⟨n1,E,(m:Int)⟩) rfl rfl HNEW.out H1.out (by unfold maxLen;omega) (by omega) (by simp;omega) ?_;intro v' w3 hown' hgrow3 hnil3)
      go_roundw
      case rel=>
       exact ⟨k+1,by omega,by go_num,by rw [HTk.out];exact HF.out v' w3 hown',HBW.out.grown hgrow3 (by simp;omega) (fun q hq=>(HLT.out q hq).1)⟩
      case measure=>simp [intOf];omega
  · have hO':=hO
    rw [HA.out k (by omega)] at hO'
    have HOF:=zid hO';have P1:wr.heap[w.heap.size+1]?=_:=(hB.block (w.heap.size+1) (by omega)).trans G1.out;obtain ⟨q0,q1,q2,q3,q4⟩:=zaa P1;obtain ⟨qf0,qf1,qf2,qf3,qf4⟩:=zae P1;have BB:=zid HB0;obtain ⟨ga,gn,gc,rfl⟩:=own_slice hO;clear hO hO' P0 P1 HO HB0;go_wp2_with fail;refine bodyPost_ret (v:= .agg #[.slice ga gn gc,.int .i64 dc,.bool false,.int .i64 0,.bool false]) (by simp [results,Tryz.results19,go_sem,q0,q1,q2,q3,q4]) rfl ?_;exact ⟨_,rfl,zaW (zbB HOF.out (k:=w.heap.size+1) (by omega) _ _ _ _ _) (by omega),zai BB.out (by omega) _ _ _ _ _⟩
end Dsk
end Go.Proofs.YtooipogbmfkeeaaGreat

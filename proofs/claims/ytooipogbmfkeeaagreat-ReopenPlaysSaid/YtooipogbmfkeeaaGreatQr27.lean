/-
  Parts of what the laws of this seat stand on:FoldRparse,TrmRef,TrmUndo,FoldBytes.
-/
import Derived.Test.YtooipogbmfkeeaaGreatQr1
import Derived.Deep.AppendSrc
import Derived.Deep.RegionHeld3
import Derived.Laws.CopyRow
import Derived.Laws.IdiomCopy
import Derived.Test.YtooipogbmfkeeaaGreatQr15
import Derived.Test.YtooipogbmfkeeaaGreatQr16
import Derived.Test.YtooipogbmfkeeaaGreatQr19
import Derived.Test.YtooipogbmfkeeaaGreatQr22
import Derived.Test.YtooipogbmfkeeaaGreatQr25
import Derived.Test.YtooipogbmfkeeaaGreatQr26
import Derived.Test.YtooipogbmfkeeaaGreatQr5
import Derived.Test.YtooipogbmfkeeaaGreatQr6
set_option maxRecDepth 100000
set_option maxHeartbeats 6400000
namespace Go.Proofs.YtooipogbmfkeeaaGreat
section
open Go.RowKit
theorem zgJ (s:ByteArray) (w:World) (hs:s.size<=4611686018427387904) (ht:Vp.take s.data.toList=none):
 Calls Tryz.prog 39 #[.string s] w (zaS w s.data.toList):=by
 have C:=fun W:World=>rread_any s ((0:Nat):Int) W (by omega);rw [zcp (by simpa using ht)] at C;have C:∀W:World,Calls Tryz.prog 60 #[.string s,.int .i64 0] W fun e w'=>e= .returned (.tuple #[.int .i64 0,.int .i64 0,.bool false])/\Below W.heap.size W w':=C;have C:=zid C;have HV:=zid (zjQ ht);clear ht
 go_enter Tryz.func39,Tryz.ntmps39
 go_wp2_with fail;refine (C.out _).mono ?_;rintro e w1 ⟨rfl,b1⟩;go_wp2_with fail;go_ret2;exact zaS.no HV.out b1
theorem zgI (s:ByteArray) (n j:Nat) (w:World) (hs:s.size<=1000000000000) (ht:Vp.take s.data.toList=some (n,j)):
 Calls Tryz.prog 39 #[.string s] w (zaS w s.data.toList):=by
 obtain ⟨i0,hi0,hz0,hz1,hz2⟩:=info_parts zey;have hjl:=(Vp.take_some ht).2.2.1;rw [show s.data.toList.length=s.size from rfl] at hjl;have C:=fun W:World=>rread_any s ((0:Nat):Int) W (by omega);rw [za5 (k:=0) ht (Nat.zero_add j)] at C;have C:∀W:World,Calls Tryz.prog 60 #[.string s,.int .i64 0] W fun e w'=>e= .returned (.tuple #[.int .i64 (n:Int),.int .i64 (j:Int),.bool true])/\Below W.heap.size W w':=C;have C:=zid C
 by_cases hn:256<n
 · have HV:=zid (zjR ht hn)
   have hni:(256:Int)<(n:Int):=by omega
   clear ht hn
   go_enter Tryz.func39,Tryz.ntmps39
   go_wp2_with fail;refine (C.out _).mono ?_;rintro e w1 ⟨rfl,b1⟩;go_wp2_with fail;go_ret2;exact zaS.no HV.out b1
 · have HV:=zid (zk5 ht (by omega))
   have hni:(n:Int)<=256:=by omega
   have hnn:n<=256:=by omega
   clear ht hn;have mixed:=zfS
   go_enter Tryz.func39,Tryz.ntmps39
   go_wp2_with fail;refine (C.out _).mono ?_;rintro e w1 ⟨rfl,b1⟩;have HI:Hid (ParseIn w s n j 0 [] j (.slice none 0 0) w1):=⟨Own.nil _ _,rfl,rfl,by simp,hjl,b1⟩;clear b1;go_wp2_with fail
   go_loopw [5,7,8] (fun x v y wr=>∃(i k:Nat) (acc:List Fp.Pr),i<=n/\x= .int .i64 k/\y= .int .i64 i/\ParseIn w s n j i acc k v wr) (fun _ _ y _=>n-(intOf y).toNat)
   case atStart=>exact ⟨0,j,[],Nat.zero_le _,rfl,rfl,HI.out⟩
   case round=>
    obtain ⟨i,k,acc,hi,rfl,rfl,hr⟩:=hrel;have HR:=zid hr;have hkl:=hr.at_;have hal:=hr.len;have HS:=zid hr.bel.size;clear hr
    by_cases hlt:i<n
    · have HB:=zid HR.out.bel
      have HVN:=zid fun (h:Fp.pairAt (s.data.toList.drop k)=none)=>HV.out.1 (run_stop HR.out.run hlt h)
      by_cases hk:k<s.size
      · have P:=fun W:World=>rread_any s ((k+1:Nat):Int) W (by omega)
        rcases ht:Vp.take (s.data.toList.drop (k+1)) with _ | ⟨n2,j2⟩
        · rw [zcp ht] at P
          have P:∀W:World,Calls Tryz.prog 60 #[.string s,.int .i64 ((k:Int)+1)] W fun e w'=>e= .returned (.tuple #[.int .i64 0,.int .i64 0,.bool false])/\Below W.heap.size W w':=P
          have P:=zid P;have HV2:=zid (HVN.out (zk7 ht));clear ht;go_wp2_with fail;refine (P.out _).mono ?_;rintro e w2 ⟨rfl,b2⟩;have HF:=zid (zaS.no HV2.out (HB.out.trans (b2.mono HS.out)));clear b2;go_wp2_with fail;go_ret2;exact HF.out
        · obtain ⟨_,hj2,hn2⟩:=take_pos ht
          obtain ⟨q,hq⟩:∃q,k+1+j2=q:=⟨_,rfl⟩
          rw [za5 ht hq] at P;have P:∀W:World,Calls Tryz.prog 60 #[.string s,.int .i64 ((k:Int)+1)] W fun e w'=>e= .returned (.tuple #[.int .i64 (n2:Int),.int .i64 (q:Int),.bool true])/\Below W.heap.size W w':=P;have P:=zid P;have HPA:=zk8 ht hk;rw [hq] at HPA hj2;clear ht
          by_cases hlong:s.size<q+n2
          · have HV2:=zid (HVN.out (by rw [HPA,if_pos hlong]))
            have h1:(s.size:Int)-(q:Int)<(n2:Int):=by omega
            clear HPA hq hlong;go_wp2_with fail;refine (P.out _).mono ?_;rintro e w2 ⟨rfl,b2⟩;have HF:=zid (zaS.no HV2.out (HB.out.trans (b2.mono HS.out)));clear b2;go_wp2_with fail;go_ret2;exact HF.out
          · rw [if_neg hlong] at HPA
            have HT:=run_step HR.out.run hlt HPA
            rw [show k+(1+j2+n2)=q+n2 by omega] at HT;have HT:=zid HT
            have h1:(n2:Int)<=(s.size:Int)-(q:Int):=by omega
            have h2:(q:Int)<=(s.size:Int):=by omega
            have h3:(q:Int)+(n2:Int)<=(s.size:Int):=by omega
            have h4:(q:Int)<=(q:Int)+(n2:Int):=by omega
            have h5:(k:Int)<(s.size:Int):=by omega
            have hqn:q+n2<=s.size:=by omega
            have hw1:IntKind.i64.wrap ((q:Int)+(n2:Int))=(q:Int)+(n2:Int):=IntWalk.i64_in _ ⟨by omega,by omega⟩
            have hw2:(0:Int)<=(q:Int)+(n2:Int):=by omega
            have hw3:((q:Int)+(n2:Int)).toNat=q+n2:=by omega
            clear HPA hq hlong;go_wp2_with fail;refine (P.out _).mono ?_;rintro e w2 ⟨rfl,b2⟩;have HB2:=zid (HR.out.bel.trans (b2.mono HS.out));have HO:=zid (HR.out.own.below b2);have hS2:=zid HB2.out.size;clear b2;go_wp2_with fail
            go_region_law_o (refine zbU rfl (.tmp 51) (.tmp 62) 53 rfl w.heap.size 83 i0 (.agg #[.int .u8 0,.string ByteArray.empty]) 2 24 Tryz.underlying53 hi0 hz0 hz1 hz2 rfl (by decide) _ _ _ (by simp [Act.eval]) (World.ownsRow.alloc (HO.out.below (zad 1)) _) ⟨w2.heap.size,0,none⟩ 1 1 [.int .u8 (s[k].toNat:Int),.string (s.extract q (q+n2))] (by simp [Act.eval]) rfl (zet w2.drew _ _ _) (by simp [Value.oneCell']) (by unfold maxLen;omega) (by omega) (by simp;have:=hS2.out;omega) ?_;intro v' w3 hown' hgrow3)
            have HN:Hid (ParseIn w s n j (i+1) (acc++[⟨s[k],s.extract q (q+n2)⟩]) (q+n2) v' w3):=⟨zbk hown',HT.out,by rw [List.length_append,HR.out.len];rfl,fun p hp=>(by
             rcases List.mem_append.1 hp with h | h
             · exact HR.out.val p h
             · rw [List.mem_singleton] at h
               rw [h]
               show (s.extract q (q+n2)).size<=s.size;rw [ByteArray.size_extract]
               omega),hqn,((HB2.out.drew).alloc hS2.out _).grown hgrow3 (by simp;have:=hS2.out;omega) (fun q hq=>(World.ownsRow.lt HO.out q hq).1)⟩
            clear hown' hgrow3;go_wp2_with fail
            go_roundw
            case rel=>exact ⟨i+1,q+n2,_,by omega,by go_num,by go_num,HN.out⟩
            case measure=>simp [intOf];omega
      · have HV2:=zid (HVN.out (by rw [List.drop_eq_nil_of_le (by show s.size<=k;omega)];rfl))
        go_wp2_with fail
        go_ret2;exact zaS.no HV2.out HB.out
    · obtain rfl:i=n:=by omega
      have hrun:=HV.out.2 acc k (run_done HR.out.run)
      have HB:=zid HR.out.bel;rw [show s.data.toList.length=s.size from rfl] at hrun
      by_cases hk:k<s.size
      · have HV2:=zid (hrun.2.1 (by omega))
        clear hrun
        go_wp2_with fail;go_ret2;exact zaS.no HV2.out HB.out
      · obtain rfl:k=s.size:=by omega
        have R0:Hid (∀v,ParseIn w s i j i acc s.size v wr->zbv wr v acc):=fun v h=>h.own.is (by have:=h.len;unfold maxLen;omega) (fun p hp=>by have:=h.val p hp;omega)
        have HIS:=zid (R0.out _ HR.out);clear R0;have R:=zhY _ acc wr HIS.out
        rcases hb:Fp.stB acc with _ | _
        · have HV2:=zid (hrun.2.2 hb)
          rw [hb] at R
          have R:=zid R;clear hrun hb;go_wp2_with fail;refine R.out.mono ?_;rintro e w2 ⟨rfl,b2⟩;have HF:=zid (zaS.no HV2.out (HB.out.trans (b2.mono HS.out)));clear b2;go_wp2_with fail;go_ret2;exact HF.out
        · have HV2:=zid (hrun.1 rfl hb)
          rw [hb] at R
          have R:=zid R;clear hrun hb;go_wp2_with fail;refine R.out.mono ?_;rintro e w2 ⟨rfl,b2⟩;have HF:=zid (zaS.yes HV2.out (HIS.out.below b2 (Nat.le_refl _)) (HB.out.trans (b2.mono HS.out)));clear b2;go_wp2_with fail;go_ret2;exact HF.out
theorem zhZ (s:ByteArray) (w:World) (hs:s.size<=1000000000000):
 Calls Tryz.prog 39 #[.string s] w (zaS w s.data.toList):=by
 rcases ht:Vp.take s.data.toList with _ | ⟨n,j⟩
 · exact zgJ s w (by omega) ht
 · exact zgI s n j w hs ht
end
namespace Trm
open Go.RowKit So Dsk Rts Sto
theorem dat_read {D:Dp.Dk} {n:ByteArray}:zbj D.f n= .tuple #[.string ⟨((So.dat D n).getD []).toArray⟩,.int .i64 (if Dp.get D.f n=none then 7 else 0)]:=by
 unfold zbj So.dat
 rcases Dp.get D.f n with _ | f
 · rfl
 · rfl
theorem zlU {D:Dp.Dk} (h:Sm D) (n:ByteArray):((So.dat D n).getD []).length<=1000000000:=by
 unfold So.dat
 rcases hg:Dp.get D.f n with _ | f
 · simp
 · have h1:=zcx (Dp.get_mem hg).1
   have h2:=h.u
   show f.d.size<=_;omega
theorem zhI {S:St} (h:Stb S):(Lg.snapT S).length<=1000000000:=by
 unfold Lg.snapT
 split
 · simp
 · exact zlU h.d _
theorem zf6 {S:St} (hn:S.g≠[]) (h:Stb S):0<=floor S/\floor S<=1152921504606846976:=by
 unfold floor
 cases hg:S.g with
 | nil=>exact absurd hg hn
 | cons g t=>exact (h.g g (by rw [hg];exact mcs)).1
theorem zhM (fa ga:Option Addr) (fn fc gn gc:Nat) (S:St) (w:World) (hf:IsL FL w (.slice fa fn fc) S.d.f) (hg:IsL Rts.SL w (.slice ga gn gc) S.g) (hn:S.g≠[]) (hB:Stb S):
 Calls Tryz.prog 40 #[zag (.slice fa fn fc) (.slice ga gn gc) S] w fun e w'=>e= .returned (.string ⟨(Lg.snapT S).toArray⟩)/\Below w.heap.size w w':=by
 have q0:=heap_alloc_new w (.cells #[.slice fa fn fc,.int .i64 S.d.c,.bool S.d.a,.int .i64 S.d.l,.bool S.d.x,.int .i64 S.v,.slice ga gn gc,.int .i64 S.x,.int .i64 S.s,.int .i64 S.z,.int .u32 S.c] 30);have qb:=(Below.refl w.heap.size w).alloc (Nat.le_refl _) (.cells #[.slice fa fn fc,.int .i64 S.d.c,.bool S.d.a,.int .i64 S.d.l,.bool S.d.x,.int .i64 S.v,.slice ga gn gc,.int .i64 S.x,.int .i64 S.s,.int .i64 S.z,.int .u32 S.c] 30);have hfl:=zf6 hn hB;have FLO:=zid fun (W:World) (h:IsL Rts.SL W (.slice ga gn gc) S.g)=>zcm (.slice fa fn fc) (.slice ga gn gc) S W h hn;have SN:=zid fun W:World=>zdy (floor S) W (by omega);have RD:=fun (W:World) (h:IsL FL W (.slice fa fn fc) S.d.f)=>Dsk.rread_any (.slice fa fn fc) S.d ⟨(Np.nameL 116 (floor S)).toArray⟩ W h;simp only [dat_read] at RD;generalize (if Dp.get S.d.f ⟨(Np.nameL 116 (floor S)).toArray⟩=none then (7:Int) else 0)=er at RD;replace RD:=zid RD;have F0:=zid hf;have G0:=zid hg;have Q0:=zid q0;have QB:=zid qb;have HE:=zid (show floor S=0->Lg.snapT S=[] from fun h=>if_pos h);have HN:=zid (show floor S≠0->Lg.snapT S=(So.dat S.d ⟨(Np.nameL 116 (floor S)).toArray⟩).getD [] from fun h=>if_neg h);clear hf hg hn hB;unfold zag at FLO ⊢;unfold zac at RD;obtain ⟨⟨k0,k1,k2,k3,k4⟩,k5,k6,k7,k8,k9,k10⟩:=zab q0;clear q0 qb;generalize floor S=fl at*;generalize Lg.snapT S=T at*
 go_enter Tryz.func40,Tryz.ntmps40
 go_wp2_with fail;generalize World.alloc w _=w0 at k0 k1 k2 k3 k4 k5 k6 k7 k8 k9 k10 Q0 QB ⊢;refine (FLO.out _ (G0.out.keep QB.out)).mono ?_;rintro e w1 ⟨rfl,b1⟩;obtain ⟨⟨x0,x1,x2,x3,x4⟩,x5,x6,x7,x8,x9,x10⟩:=zab (hkeep Q0.out b1);have PB:=zid (QB.out.trans (b1.mono QB.out.size));have P0:=zid (hkeep Q0.out b1);clear b1 k0 k1 k2 k3 k4 k5 k6 k7 k8 k9 k10
 by_cases h0:fl=0
 · have h0':(fl==0)=true:=by simpa using h0
   have HR:=zid (HE.out h0)
   clear h0;go_wp2_with fail;go_ret;exact ⟨by rw [HR.out];rfl,PB.out⟩
 · have h0':(fl==0)=false:=by simpa using h0
   have HR:=zid (HN.out h0)
   have hb0:w.heap.size<w1.heap.size:=(Array.getElem?_eq_some_iff.1 P0.out).1;clear h0;go_upto_region 3 with (fail)
   go_region_held3 (fun W=>(∀b o,b<w1.heap.size->W.cell? ⟨b,o,none⟩=w1.cell? ⟨b,o,none⟩)/\Below w1.heap.size w1 W) (first | with_reducible assumption | with_reducible exact KW.dr _ | with_reducible exact KW.keep (by assumption) (Below.refl _ _).drew | with_reducible exact KW.keep (by assumption) (by assumption)) (first | (go_at_call 15;refine (FLO.out _ (G0.out.keep (PB.out.trans ((KW.bel (by assumption)).mono PB.out.size)))).mono ?_;rintro e w5 ⟨rfl,q5⟩;have s5:=KW.keep (by assumption) q5) | (go_at_call 29;refine (SN.out _).mono ?_;rintro e w5 ⟨rfl,q5⟩;have s5:=KW.keep (by assumption) q5) | (go_at_call 26;refine (RD.out _ (F0.out.keep (PB.out.trans ((KW.bel (by assumption)).mono PB.out.size)))).mono ?_;rintro e w5 ⟨rfl,q5⟩;have s5:=KW.keep (by assumption) q5))
   all_goals
    rename_i hh
    have LB:=zid (PB.out.trans ((KW.bel hh).mono PB.out.size));clear hh;go_wp2_with fail;go_ret;exact ⟨by rw [HR.out];rfl,LB.out⟩
def zjh (w:World) (l:List Fp.Pr) (e:Ending) (w':World):Prop:=∃a n c,e= .returned (.slice a n c)/\zbv w' (.slice a n c) l/\Below w.heap.size w w'
theorem zjh.mk {w w':World} {l:List Fp.Pr} {v:Value} (h:zbv w' v l) (hb:Below w.heap.size w w'):zjh w l (.returned v) w':=by
 obtain ⟨a,c,rfl,h⟩:=h;exact ⟨a,_,c,rfl,⟨a,c,rfl,h⟩,hb⟩
theorem zgT {w:World} {v:Value} {l:List Fp.Pr} (h:zbv w v l):∃a n c,v= .slice a n c:=by
 obtain ⟨a,c,rfl,_⟩:=h;exact ⟨a,_,c,rfl⟩
noncomputable def stN (S:St) (n:Nat):List Fp.Pr:=(List.range n).foldl (fun l (i:Nat)=>Fp.step l (zco S (floor S+(i:Int))).1.d) ((Fp.parse (Lg.snapT S)).getD [])
theorem ziG (S:St) (n:Nat):stN S (n+1)=Fp.step (stN S n) (zco S (floor S+(n:Int))).1.d:=by
 unfold stN;rw [List.range_succ,List.foldl_append]
 rfl
theorem stN_st (S:St):∀n,Fp.St (stN S n)
 | 0=>by
  show Fp.St ((Fp.parse (Lg.snapT S)).getD [])
  rcases h:Fp.parse (Lg.snapT S) with _ | l
  · exact Fp.St.nil
  · exact Fp.parse_st h
 | n+1=>by
  rw [ziG];exact (stN_st S n).step (ziN S _).2
theorem own_prs {w:World} {B:Nat} {v:Value} {l:List Fp.Pr} (h:Own w B v l) (hs:Fp.St l):zbv w v l:=
 h.is (by have:=hs.2.len;unfold maxLen;omega) fun p hp=>by have:=(hs.1 p hp).2;omega
theorem zcU (fa ga:Option Addr) (fn fc gn gc:Nat) (S:St) (o:Int) (w:World) (hf:IsL FL w (.slice fa fn fc) S.d.f) (hg:IsL Rts.SL w (.slice ga gn gc) S.g) (hn:S.g≠[]) (hB:Stb S) (ho:o<=1152921504606846976):
 Calls Tryz.prog 18 #[zag (.slice fa fn fc) (.slice ga gn gc) S,.int .i64 o] w (zjh w (Lg.stateT S o)):=by
 have q0:=heap_alloc_new w (.cells #[.slice fa fn fc,.int .i64 S.d.c,.bool S.d.a,.int .i64 S.d.l,.bool S.d.x,.int .i64 S.v,.slice ga gn gc,.int .i64 S.x,.int .i64 S.s,.int .i64 S.z,.int .u32 S.c] 30);have qb:=(Below.refl w.heap.size w).alloc (Nat.le_refl _) (.cells #[.slice fa fn fc,.int .i64 S.d.c,.bool S.d.a,.int .i64 S.d.l,.bool S.d.x,.int .i64 S.v,.slice ga gn gc,.int .i64 S.x,.int .i64 S.s,.int .i64 S.z,.int .u32 S.c] 30);have hfl:=zf6 hn hB;have hsz:=zhI hB;have SNP:=zid fun (W:World) (h1:IsL FL W (.slice fa fn fc) S.d.f) (h2:IsL Rts.SL W (.slice ga gn gc) S.g)=>zhM fa ga fn fc gn gc S W h1 h2 hn hB;have FLO:=zid fun (W:World) (h:IsL Rts.SL W (.slice ga gn gc) S.g)=>zcm (.slice fa fn fc) (.slice ga gn gc) S W h hn;have RDC:=zid fun (W:World) (k:Int) (h1:IsL FL W (.slice fa fn fc) S.d.f) (h2:IsL Rts.SL W (.slice ga gn gc) S.g)=>zdp fa ga fn fc gn gc S k W h1 h2 hB;have PRS:=zid fun (W:World)=>zhZ ⟨(Lg.snapT S).toArray⟩ W (by show (Lg.snapT S).toArray.size<=_;simp;omega);have HST:=zid (stN_st S);have HSU:=zid (ziG S);have HS0:=zid (show stN S 0=(Fp.parse (Lg.snapT S)).getD [] from rfl);have HEN:=zid (show Lg.stateT S o=stN S (o-floor S).toNat from rfl);have HOK:=zid (ziN S);have F0:=zid hf;have G0:=zid hg;have Q0:=zid q0;have QB:=zid qb;clear hf hg hn hB hsz;unfold zag at SNP FLO RDC ⊢;obtain ⟨⟨k0,k1,k2,k3,k4⟩,k5,k6,k7,k8,k9,k10⟩:=zab q0;clear q0 qb;generalize floor S=fl at*;generalize Lg.stateT S o=T at*
 go_enter Tryz.func18,Tryz.ntmps18
 go_wp2_with fail;generalize World.alloc w _=w0 at k0 k1 k2 k3 k4 k5 k6 k7 k8 k9 k10 Q0 QB ⊢;refine (SNP.out _ (F0.out.keep QB.out) (G0.out.keep QB.out)).mono ?_;rintro e w1 ⟨rfl,b1⟩;have P1:=zid (hkeep Q0.out b1);have PB1:=zid (QB.out.trans (b1.mono QB.out.size));clear b1 k0 k1 k2 k3 k4 k5 k6 k7 k8 k9 k10;go_wp2_with fail;refine (PRS.out _).mono ?_;rintro e w2 ⟨v2,rfl,hv2,b2⟩;obtain ⟨a2,n2,c2,rfl⟩:=zgT hv2;have HV2:=zid (show zbv w2 (.slice a2 n2 c2) (stN S 0) from by rw [HS0.out];exact hv2);obtain ⟨⟨x0,x1,x2,x3,x4⟩,x5,x6,x7,x8,x9,x10⟩:=zab (hkeep P1.out b2);have P2:=zid (hkeep P1.out b2);have PB2:=zid (PB1.out.trans (b2.mono PB1.out.size));clear b2 hv2;go_wp2_with fail;refine (FLO.out _ (G0.out.keep PB2.out)).mono ?_;rintro e w3 ⟨rfl,b3⟩;have P3:=zid (hkeep P2.out b3);have PB3:=zid (PB2.out.trans (b3.mono PB2.out.size));have HV3:=zid (HV2.out.below b3 (Nat.le_refl _));clear b3 x0 x1 x2 x3 x4 x5 x6 x7 x8 x9 x10;go_wp2_with fail
 go_loopw [5,7] (fun v i wr=>∃(a:Option Addr) (n c j:Nat),v= .slice a n c/\i= .int .i64 (fl+(j:Int))/\(j=0\/fl+(j:Int)<=o)/\Hid (zbv wr (.slice a n c) (stN S j))/\wr.heap[w.heap.size]?=some (.cells #[.slice fa fn fc,.int .i64 S.d.c,.bool S.d.a,.int .i64 S.d.l,.bool S.d.x,.int .i64 S.v,.slice ga gn gc,.int .i64 S.x,.int .i64 S.s,.int .i64 S.z,.int .u32 S.c] 30 (0,0))/\Below w.heap.size w wr) (fun _ i _=>(o-intOf i).toNat)
 case atStart=>exact ⟨a2,n2,c2,0,rfl,by simp,.inl rfl,HV3,P3.out,PB3.out⟩
 case round=>
  obtain ⟨a,n,c,j,rfl,rfl,hj,HV,q0,hbw⟩:=hrel;obtain ⟨⟨k0,k1,k2,k3,k4⟩,k5,k6,k7,k8,k9,k10⟩:=zab q0;have P0:=zid q0;have PB:=zid hbw
  by_cases hlt:fl+(j:Int)<o
  · have RD:=RDC.out wr (fl+(j:Int)) (F0.out.keep hbw) (G0.out.keep hbw)
    have hok:=(HOK.out (fl+(j:Int))).2
    have HS2:=HSU.out j;obtain ⟨⟨⟨xa,xt,xd⟩,er⟩,hR⟩:∃R,zco S (fl+(j:Int))=R:=⟨_,rfl⟩;rw [hR] at RD hok HS2;unfold RdVal za3 at RD;dsimp only at RD hok HS2;replace RD:=zid RD;have HS3:=zid HS2;clear hR HS2 q0 hbw;go_wp2_with fail;refine RD.out.mono ?_;rintro e w4 ⟨rfl,b4⟩;have A4:=(Below.refl w4.heap.size w4).alloc (Nat.le_refl _) (.cells #[.int .i64 xa,.int .i64 xt,.string xd] 49);obtain ⟨y0,y1,y2⟩:=cells3 (heap_alloc_new w4 (.cells #[.int .i64 xa,.int .i64 xt,.string xd] 49));have b24:=b4.trans (A4.mono b4.size);have P4:=zid (hkeep P0.out b24);have PB4:=zid (PB.out.trans (b24.mono PB.out.size));have HV4:=zid (HV.out.below b24 (Nat.le_refl _));have ST:=zid (fun (W:World) (h:zbv W (.slice a n c) (stN S j))=>zkG (.slice a n c) (stN S j) xd W h (HST.out j).2);clear b4 A4 b24 RD k0 k1 k2 k3 k4 k5 k6 k7 k8 k9 k10;go_wp2_with fail;refine (ST.out _ HV4.out).mono ?_;rintro e w5 ⟨v5,rfl,ho5,b5⟩;have hv5:=own_prs ho5 (by rw [<-HS3.out];exact HST.out (j+1));rw [<-HS3.out] at hv5;obtain ⟨a5,n5,c5,rfl⟩:=zgT hv5;have HV5:=zid hv5;have P5:=zid (hkeep P4.out b5);have PB5:=zid (PB4.out.trans (b5.mono PB4.out.size));clear hv5 ho5 b5 y0 y1 y2;go_wp2_with fail
    go_roundw
    case rel=>exact ⟨a5,n5,c5,j+1,rfl,by go_num,.inr (by omega),HV5,P5.out,PB5.out⟩
    case measure=>simp [intOf];omega
  · have hk:(o-fl).toNat=j:=by omega
    have HF:=zid (zjh.mk (l:=T) (by rw [HEN.out,hk];exact HV.out) PB.out)
    clear q0 hbw k0 k1 k2 k3 k4 k5 k6 k7 k8 k9 k10;go_wp2_with fail;go_ret;exact HF.out
structure Us (w:World) (b:Nat) (fv0 fv:Value) (D:Dp.Dk) (W:World):Prop where
 d:W.heap[b]?=some (.cells #[fv,.int .i64 D.c,.bool D.a,.int .i64 D.l,.bool D.x] 24 (0,0))
 r:W.heap[b+1]?=some (.cells #[.slice none 0 0,.int .i64 0,.bool false,.int .i64 0,.bool false] 24 (0,0))
 f:IsL FL W fv D.f
 s:Sep fv b/\Sep fv (b+1)
 k:∀t,t<b->Sep fv0 t->Sep fv t
 w:Below b w W
theorem Us.keep {w W W':World} {b:Nat} {fv0 fv:Value} {D:Dp.Dk} (h:Us w b fv0 fv D W) (k:Below W.heap.size W W'):Us w b fv0 fv D W':=
 ⟨hkeep h.d k,hkeep h.r k,h.f.keep k,h.s,h.k,h.w.trans (k.mono (by have:=(Array.getElem?_eq_some_iff.1 h.d).1;omega))⟩
theorem Us.lay {w W W':World} {b:Nat} {fv0 fv fv':Value} {D D':Dp.Dk} (h:Us w b fv0 fv D W) (k:DkS W fv D' fv' W'):
 ∃Z,((((W'.setCell ⟨b,0,none⟩ fv').setCell ⟨b,1,none⟩ (.int .i64 D'.c)).setCell ⟨b,2,none⟩ (.bool D'.a)).setCell ⟨b,3,none⟩ (.int .i64 D'.l)).setCell ⟨b,4,none⟩ (.bool D'.x)=Z/\Us w b fv0 fv' D' Z:=by
 have h0:b<W.heap.size:=(Array.getElem?_eq_some_iff.1 h.d).1;have h1:b+1<W.heap.size:=(Array.getElem?_eq_some_iff.1 h.r).1;have s0:=k.s b h0 h.s.1
 have ho:∀j,j≠b->∀o,W'.heap[j]?=some o->(set5 W' b fv' (.int .i64 D'.c) (.bool D'.a) (.int .i64 D'.l) (.bool D'.x)).heap[j]?=some o:=fun j hj o e=>by
  unfold set5;rw [Below.heap_setCell _ _ _ j (fun e=>hj e),Below.heap_setCell _ _ _ j (fun e=>hj e),Below.heap_setCell _ _ _ j (fun e=>hj e),Below.heap_setCell _ _ _ j (fun e=>hj e),Below.heap_setCell _ _ _ j (fun e=>hj e)];exact e
 exact ⟨_,rfl,za8 (hkeep h.d k.w) _ _ _ _ _,ho _ (by omega) _ (hkeep h.r k.w),IsL.set5 k.f s0 _ _ _ _ _,
  ⟨s0,k.s _ h1 h.s.2⟩,fun t ht hs=>k.s t (by omega) (h.k t ht hs),zai (h.w.trans (k.w.mono (Nat.le_of_lt h0))) (Nat.le_refl _) _ _ _ _ _⟩
theorem Us.end {w W:World} {fv0 fv:Value} {D:Dp.Dk} (h:Us w w.heap.size fv0 fv D W):
 ∃Z,((((W.setCell ⟨w.heap.size+1,0,none⟩ fv).setCell ⟨w.heap.size+1,1,none⟩ (.int .i64 D.c)).setCell ⟨w.heap.size+1,2,none⟩ (.bool D.a)).setCell ⟨w.heap.size+1,3,none⟩ (.int .i64 D.l)).setCell ⟨w.heap.size+1,4,none⟩ (.bool D.x)=Z/\Z.heap[w.heap.size+1]?=some (.cells #[fv,.int .i64 D.c,.bool D.a,.int .i64 D.l,.bool D.x] 24 (0,0))/\DkS w fv0 D fv Z:=
 ⟨_,rfl,za8 h.r _ _ _ _ _,IsL.set5 h.f h.s.2 _ _ _ _ _,h.k,zai h.w (by omega) _ _ _ _ _⟩
theorem zeb (fa:Option Addr) (fn fc:Nat) (D:Dp.Dk) (e:Int) (n:ByteArray) (w:World) (k:Nat) (hv:IsL FL w (.slice fa fn fc) D.f) (hS:Bd D k) (hk:k<=100000):
 Calls Tryz.prog 109 #[zac (.slice fa fn fc) D,.int .i64 e,.string n] w (za2 w (.slice fa fn fc) (Lg.undo (D,e) n)):=by
 obtain ⟨g0,g1,gb,gs⟩:=zaR w #[.slice fa fn fc,.int .i64 D.c,.bool D.a,.int .i64 D.l,.bool D.x] #[.slice none 0 0,.int .i64 0,.bool false,.int .i64 0,.bool false] 24 24;have BS0:=zid (show Us w w.heap.size (.slice fa fn fc) (.slice fa fn fc) D _ from ⟨g0,g1,hv.keep gb,⟨IsL.sep_new hv (Nat.le_refl _),IsL.sep_new hv (by omega)⟩,fun _ _ h=>h,gb⟩);have RD:=zid fun (W:World) (h:IsL FL W (.slice fa fn fc) D.f)=>zbW hS (by omega) n h;have HU:=zid (show Lg.undo (D,e) n=if e=9 then ((Dp.delete D n).1,if (Dp.delete D n).2=0 then 9 else (Dp.delete D n).2) else (D,e) from rfl);obtain ⟨⟨X,E⟩,hX⟩:∃R,Dp.delete D n=R:=⟨_,rfl⟩;rw [hX] at RD HU;dsimp only at HU;obtain ⟨p0,p1,p2,p3,p4⟩:=zaa g0;obtain ⟨q0,q1,q2,q3,q4⟩:=zaa g1;obtain ⟨qf0,qf1,qf2,qf3,qf4⟩:=zae g1;have HV:=zid hv;clear g0 g1 gb gs hv hS hX;unfold zac at RD ⊢
 by_cases h9:e=9
 case neg=>
  have e9:(e != 9)=true:=by simpa using h9
  have HR:Lg.undo (D,e) n=(D,e):=by rw [HU.out,if_neg h9]
  rw [HR];clear HU HR RD h9
  go_enter Tryz.func109,Tryz.ntmps109
  go_wp2_with fail;obtain ⟨g0,g1,gb,gs⟩:=zaR w #[.slice fa fn fc,.int .i64 D.c,.bool D.a,.int .i64 D.l,.bool D.x] #[.slice fa fn fc,.int .i64 D.c,.bool D.a,.int .i64 D.l,.bool D.x] 24 24;obtain ⟨z0,z1,z2,z3,z4⟩:=zaa g1;refine bodyPost_ret (v:= .tuple #[.agg #[.slice fa fn fc,.int .i64 D.c,.bool D.a,.int .i64 D.l,.bool D.x],.int .i64 e]) (by simp [results,Tryz.results109,go_sem,z0,z1,z2,z3,z4]) rfl ?_;exact ⟨_,_,_,rfl,HV.out.keep gb,fun _ _ h=>h,gb⟩
 subst h9;have e9:((9:Int) != 9)=false:=rfl;obtain ⟨E2,hE2⟩:∃E2,(if E=0 then 9 else E)=E2:=⟨_,rfl⟩
 have HR:Lg.undo (D,9) n=(X,E2):=by rw [HU.out,if_pos rfl,hE2]
 have HE2:=zid hE2;rw [HR];clear hE2;clear HU HR
 go_enter Tryz.func109,Tryz.ntmps109
 go_wp2_with fail;generalize World.alloc (World.alloc w _) _=w0 at BS0 p0 p1 p2 p3 p4 q0 q1 q2 q3 q4 qf0 qf1 qf2 qf3 qf4 ⊢;refine (RD.out w0 BS0.out.f).mono ?_;rintro e w1 ⟨a1,n1,c1,rfl,k1⟩;have B1:=BS0.out.keep k1.w;have L1:=zid (BS0.out.lay k1);clear p0 p1 p2 p3 p4 q0 q1 q2 q3 q4 qf0 qf1 qf2 qf3 qf4;obtain ⟨p0,p1,p2,p3,p4⟩:=zaa B1.d;obtain ⟨pf0,pf1,pf2,pf3,pf4⟩:=zae B1.d;clear B1 k1;unfold zac;dsimp only at L1 ⊢;go_upto_region 4 with (fail);obtain ⟨Z,hZ,Z1⟩:=L1.out;rw [hZ];have BZ:=zid Z1;obtain ⟨q0,q1,q2,q3,q4⟩:=zaa Z1.d;obtain ⟨r0,r1,r2,r3,r4⟩:=zaa Z1.r;obtain ⟨rf0,rf1,rf2,rf3,rf4⟩:=zae Z1.r;clear hZ L1 Z1 p0 p1 p2 p3 p4 pf0 pf1 pf2 pf3 pf4
 by_cases hE:E=0
 · subst hE
   obtain rfl:E2=9:=by rw [<-HE2.out,if_pos rfl]
   clear HE2;go_wp2_with fail;obtain ⟨Y,hY,Y1,Y2⟩:=BZ.out.end;rw [hY];obtain ⟨z0,z1,z2,z3,z4⟩:=zaa Y1;refine bodyPost_ret (v:= .tuple #[.agg #[.slice a1 n1 c1,.int .i64 X.c,.bool X.a,.int .i64 X.l,.bool X.x],.int .i64 9]) (by simp [results,Tryz.results109,go_sem,z0,z1,z2,z3,z4]) rfl ?_;exact ⟨_,_,_,rfl,Y2⟩
 · have hE':(E != 0)=true:=by simpa using hE
   obtain rfl:E2=E:=by rw [<-HE2.out,if_neg hE]
   clear hE HE2;go_wp2_with fail;obtain ⟨Y,hY,Y1,Y2⟩:=BZ.out.end;rw [hY];obtain ⟨z0,z1,z2,z3,z4⟩:=zaa Y1;refine bodyPost_ret (v:= .tuple #[.agg #[.slice a1 n1 c1,.int .i64 X.c,.bool X.a,.int .i64 X.l,.bool X.x],.int .i64 E2]) (by simp [results,Tryz.results109,go_sem,z0,z1,z2,z3,z4]) rfl ?_;exact ⟨_,_,_,rfl,Y2⟩
end Trm
section
open Go.RowKit
theorem zlM {l:List Fp.Pr} {k:Nat} (h:k<l.length):Fp.flat (l.take (k+1))=Fp.flat (l.take k)++([(l.getD k Fp.zero).k]++Vp.put (l.getD k Fp.zero).v.size++(l.getD k Fp.zero).v.data.toList):=by
 rw [List.take_succ_eq_append_getElem h,Fp.flat_snoc,zbJ h]
 rfl
theorem fewP_val {l:List Fp.Pr} (h:fewP l=true) {i:Nat} (hi:i<l.length):(l.getD i Fp.zero).v.size<=100:=by
 unfold fewP at h;rw [Bool.and_eq_true,List.all_eq_true] at h;rw [zbJ hi];exact of_decide_eq_true (h.2 _ (List.getElem_mem _))
theorem zl0 {w w4:World} {c:UInt8} (b:Below (w.alloc (.cells #[.int .u8 (c.toNat:Int)] 5)).heap.size (w.alloc (.cells #[.int .u8 (c.toNat:Int)] 5)) w4):
 (convert 43 9 (.slice (some ⟨w.heap.size,0,none⟩) 1 1)).run Tryz.prog w4= .ok (.string ⟨#[c]⟩) w4:=by
 have e:([c]:List UInt8).toArray= #[c]:=rfl;rw [<-e];refine run_convert_bytes_back w4 43 9 5 ⟨w.heap.size,0,none⟩ 1 [c] Tryz.underlying43 Tryz.underlying5 Tryz.underlying9 (fun j hj=>?_)
 have hj0:j=0:=by simpa using hj
 subst hj0
 have h0:(w.alloc (.cells #[.int .u8 (c.toNat:Int)] 5)).cell? ⟨w.heap.size,0,none⟩=some (.int .u8 (c.toNat:Int)):=by rw [cell_of_row _ _ 0 _ _ (0,0) (heap_alloc_new w _)];rfl
 show w4.cell? ⟨w.heap.size,0,none⟩=_;rw [b.cell (p:=⟨w.heap.size,0,none⟩) (block_lt_of_cell h0),h0]
 rfl
theorem zeA {w w1 w2:World} {b o:Nat} {x y:Value} (hb:b<w.heap.size) (h:w1.cell? ⟨b,o,none⟩=some x/\w1.cell? ⟨b,o+1,none⟩=some y/\Below w.heap.size w w1) (k:Below w1.heap.size w1 w2):
 w2.cell? ⟨b,o,none⟩=some x/\w2.cell? ⟨b,o+1,none⟩=some y/\Below w.heap.size w w2:=by
 have hl:=Nat.lt_of_lt_of_le hb h.2.2.size;exact ⟨(k.cell (p:=⟨b,o,none⟩) hl).trans h.1,(k.cell (p:=⟨b,o+1,none⟩) hl).trans h.2.1,h.2.2.trans (k.mono h.2.2.size)⟩
theorem zko (L:List UInt8) (c:UInt8) (B:List UInt8) (s:ByteArray):Value.string ({data:=L.toArray}++{data:= #[c]}++{data:=B.toArray}++s)= .string ⟨(L++[c]++B++s.data.toList).toArray⟩:=by
 refine congrArg Value.string (ByteArray.ext ?_)
 apply Array.ext'
 simp
theorem text_len (L:List UInt8) (c:UInt8) (B:List UInt8) (s:ByteArray):(L++[c]++B++s.data.toList).length=L.length+1+B.length+s.size:=by
 have:s.data.toList.length=s.size:=rfl;simp only [List.length_append,List.length_cons,List.length_nil,this]
theorem zgL (l:List Fp.Pr) (b off cap:Nat) (w:World) (hl:l.length<=300) (hv:∀i,i<l.length->(l.getD i Fp.zero).v.size<=100)
 (hc:∀i,i<l.length->w.cell? ⟨b,off+i*2,none⟩=some (.int .u8 ((l.getD i Fp.zero).k.toNat:Int))/\w.cell? ⟨b,off+i*2+1,none⟩=some (.string (l.getD i Fp.zero).v)):
 Calls Tryz.prog 108 #[.slice (some ⟨b,off,none⟩) l.length cap] w fun e w'=>e= .returned (.string ⟨(Fp.bytes l).toArray⟩)/\Below w.heap.size w w':=by
 have P0:=zid fun W:World=>zd5 l.length W (by omega);have HC:=zid hc;have HVS:=zid hv;have HT:=zid fun (k:Nat) (h:k<l.length)=>zlM h;have HF:=zid (show Fp.bytes l=Vp.put l.length++Fp.flat (l.take l.length) by rw [List.take_length];rfl);have hB0l:=Vp.put_len_le l.length;clear hc hv;generalize Fp.bytes l=R at*;generalize hB0:Vp.put l.length=B0 at*;clear hB0;obtain ⟨len,hlen⟩:∃len,l.length=len:=⟨_,rfl⟩;rw [hlen] at HC HVS HT HF hl P0 ⊢;clear hlen
 go_enter Tryz.func108,Tryz.ntmps108
 go_wp2_with fail;refine (P0.out _).mono ?_;rintro e w1 ⟨rfl,b1⟩;have HB1:=zid b1;clear b1;go_wp2_with fail
 go_loopw [3,4] (fun s i wr=>∃(k:Nat) (L:List UInt8),k<=len/\i= .int .i64 k/\s= .string ⟨L.toArray⟩/\L=B0++Fp.flat (l.take k)/\L.length<=9+k*110/\Below w.heap.size w wr) (fun _ i _=>len-(intOf i).toNat)
 case atStart=>exact ⟨0,B0,Nat.zero_le _,rfl,rfl,by simp [Fp.flat],by omega,HB1.out⟩
 case round=>
  obtain ⟨k,L,hk,rfl,rfl,hL,hLl,bel⟩:=hrel;have HL:=zid hL;clear hL
  by_cases hlt:k<len
  · obtain ⟨c0,c1⟩:=HC.out k hlt
    have hbb:=block_lt_of_cell c0
    have HS:Hid (wr.cell? ⟨b,off+k*2,none⟩=some (.int .u8 ((l.getD k Fp.zero).k.toNat:Int))/\wr.cell? ⟨b,off+k*2+1,none⟩=some (.string (l.getD k Fp.zero).v)/\Below w.heap.size w wr):=
     ⟨by rw [bel.cell (p:=⟨b,off+k*2,none⟩) hbb];exact c0,by rw [bel.cell (p:=⟨b,off+k*2+1,none⟩) hbb];exact c1,bel⟩
    clear c0 c1 bel;have HT2:=zid (HT.out k hlt);have hv:=HVS.out k hlt;generalize l.getD k Fp.zero=p at*;have P:=zid fun W:World=>zd5 p.v.size W (by omega);have hpl:=Vp.put_len_le p.v.size;generalize Vp.put p.v.size=B1 at*
    have s1:¬9223372036854775807<L.length+1:=by omega
    have s2:¬9223372036854775807<L.length+1+B1.length:=by omega
    have s3:¬9223372036854775807<L.length+1+B1.length+p.v.size:=by omega
    have hS:=HS.out;have hcv0:=zl0 (w:=wr) (c:=p.k) (Below.refl _ _).drew;go_wp2_with fail
    go_region_held (fun w'=>w'.cell? ⟨b,off+k*2,none⟩=some (.int .u8 (p.k.toNat:Int))/\w'.cell? ⟨b,off+k*2+1,none⟩=some (.string p.v)/\Below w.heap.size w w')
     (first | assumption | exact zeA hbb (by assumption) (Below.refl _ _).drew | exact zeA hbb (by assumption) ((Below.refl _ _).alloc (Nat.le_refl _) _) | exact zeA hbb (by assumption) (by assumption))
     (first | (go_at_call 102;refine (P.out _).mono ?_;rintro e w4 ⟨rfl,b4⟩;have hcv5:=zl0 (w:=w4) (c:=p.k) (Below.refl _ _);try have hcv4:=zl0 (w:=wr) (c:=p.k) (w4:=w4) ⟨b4.os,b4.tape,b4.output,b4.size,b4.block⟩))
    all_goals
     go_wp2_with fail
     go_roundw
     case rel=>exact ⟨k+1,_,by omega,by go_num,zko L p.k B1 p.v,by rw [HT2.out,HL.out];simp,by rw [text_len];omega,And.right (And.right (by assumption))⟩
     case measure=>simp [intOf];omega
  · obtain rfl:k=len:=by omega
    have HG:=zid (show L=R by rw [HL.out,HF.out])
    have HBL:=zid bel;clear bel;go_wp2_with fail;go_ret;exact ⟨by rw [HG.out];rfl,HBL.out⟩
theorem zgM (a:Option Addr) (cap:Nat) (w:World):
 Calls Tryz.prog 108 #[.slice a 0 cap] w fun e w'=>e= .returned (.string ⟨(Fp.bytes []).toArray⟩)/\Below w.heap.size w w':=by
 have P0:=zid fun W:World=>zd5 0 W (by omega);have HF:=zid (show Fp.bytes []=Vp.put 0 by rfl);generalize Fp.bytes []=R at*;generalize Vp.put 0=B0 at*;have hE:=HF.out;subst hE
 go_enter Tryz.func108,Tryz.ntmps108
 go_wp2_with fail;refine (P0.out _).mono ?_;rintro e w1 ⟨rfl,b1⟩;go_wp2_with fail;refine wp_loop_rounds 1 ?_;rw [rounds_succ];go_wp2_with fail;go_ret;exact ⟨rfl,b1⟩
theorem zh0 (v:Value) (l:List Fp.Pr) (w:World) (h:zbv w v l) (hf:fewP l=true):
 Calls Tryz.prog 108 #[v] w fun e w'=>e= .returned (.string ⟨(Fp.bytes l).toArray⟩)/\Below w.heap.size w w':=by
 obtain ⟨a,cap,rfl,_,_,h3⟩:=h
 rcases h3 with rfl | ⟨b,off,rfl,h4⟩
 · exact zgM a cap w
 · exact zgL l b off cap w (fewP_le hf) (fun i hi=>fewP_val hf hi) h4
end
end Go.Proofs.YtooipogbmfkeeaaGreat

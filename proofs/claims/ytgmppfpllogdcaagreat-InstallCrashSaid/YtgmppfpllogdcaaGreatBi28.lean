/-
  Parts of what the laws of this seat stand on:ManGet2,RoTold.
-/
import Derived.Test.YtgmppfpllogdcaaGreatBi1
import Derived.Deep.Heap
import Derived.Deep.OwnRows
import Derived.Laws.BitsAllLaws
import Derived.Test.YtgmppfpllogdcaaGreatBi14
import Derived.Test.YtgmppfpllogdcaaGreatBi15
import Derived.Test.YtgmppfpllogdcaaGreatBi2
import Derived.Test.YtgmppfpllogdcaaGreatBi26
import Derived.Test.YtgmppfpllogdcaaGreatBi27
set_option maxRecDepth 100000
set_option maxHeartbeats 6400000
namespace Go.Proofs.YtgmppfpllogdcaaGreat
namespace Mfs
open Go.RowKit Qm
theorem wrap3 {f n:Int} (h0:0<=f) (h1:f<=9223372036854775807) (hn:0<=n/\n<=1000):IntKind.i64.wrap (f+3)=n↔f+3=n:=by
 rw [IntKind.wrap_i64];omega
theorem as_man (L:List Int) (N:Nat) (hL:L.length=N+3) (h1:L.getD 1 0=(N:Int)) (c:Int):∃m:Mn,nums m=L/\m.l.length=N/\m.c=c:=by
 match L,hL,h1 with
 | a::b::t,hL,h1=>
  have ht:t≠[]:=fun e=>by subst e;simp at hL
  have hl:t.dropLast.length=N:=by rw [List.length_dropLast];simp at hL;omega
  refine ⟨⟨a,t.dropLast,t.getLast ht,c⟩,?_,hl,rfl⟩;unfold nums;dsimp only;rw [hl,List.dropLast_concat_getLast];have hb:b=(N:Int):=h1;rw [hb]
theorem str_no {a b:ByteArray} (h:¬a=b):(a.toList==b.toList)=false:=by
 rw [ByteArray.toList_eq,ByteArray.toList_eq,beq_eq_false_iff_ne];exact fun e=>h (ByteArray.ext (Array.ext' e))
theorem four_of (B:ByteArray) (q:Nat) (h:B.size=q+4):∃C:Nat,C<4294967296/\∀k (hk:q+k<B.size),(B[q+k]'hk).toNat=C/256^k%256:=by
 have b0:=(B[q+0]'(by omega)).toNat_lt;have b1:=(B[q+1]'(by omega)).toNat_lt;have b2:=(B[q+2]'(by omega)).toNat_lt;have b3:=(B[q+3]'(by omega)).toNat_lt;refine ⟨(B[q+0]'(by omega)).toNat+256*(B[q+1]'(by omega)).toNat+65536*(B[q+2]'(by omega)).toNat+16777216*(B[q+3]'(by omega)).toNat,by omega,?_⟩;intro k hk
 have hk4:k=0\/k=1\/k=2\/k=3:=by omega
 rcases hk4 with rfl | rfl | rfl | rfl
 · rw [Nat.pow_zero];omega
 · rw [Nat.pow_one];omega
 · rw [show (256:Nat)^2=65536 from rfl];omega
 · rw [show (256:Nat)^3=16777216 from rfl];omega
theorem zkB (s:ByteArray) (j:Nat) (b:List UInt8) (w:World) (hs:s.size<=140737488351232) (he:Fr.nx s.data.toList=(0,j,b)) (hbm:Fr.May b.length) (hno:¬ ∃m,Ok m/\Fr.fr (body m)=s.data.toList):
 Calls Tryz.prog 49 #[.string s] w (zbi w (getM s.data.toList)):=by
 rw [getM_no he hno];have C:=fun W:World=>zc0 s 0 W hs;rw [show (0:Int)=((0:Nat):Int) from rfl,zeq,zdt (k:=0) he] at C;obtain ⟨B,hB⟩:∃B:ByteArray,(⟨b.toArray⟩:ByteArray)=B:=⟨_,rfl⟩
 have hBz:B.size<=65536:=by rw [<-hB,zaO];exact hbm.2
 rw [hB] at C;have RD:=zid fun (k:Nat) (W:World)=>rread_any B (k:Int) W (by omega);obtain ⟨i0,hi,hz0,hz1,hz2⟩:=info_parts info_int;have HA:=zid ((Below.refl w.heap.size w).alloc (Nat.le_refl _) (.cells #[.int .i64 0,.slice none 0 0,.int .i64 0,.int .u32 0] 76));have G0:=zid (heap_alloc_new w (.cells #[.int .i64 0,.slice none 0 0,.int .i64 0,.int .u32 0] 76));have HNO:=zid hno;replace C:=zid C;clear he hbm hno hB
 go_enter Tryz.func49,Tryz.ntmps49
 go_wp2_with fail;refine (C.out _).mono ?_;rintro e w1 ⟨rfl,b1⟩;have G1:=zid ((b1.block w.heap.size (Array.getElem?_eq_some_iff.1 G0.out).1).trans G0.out);have B1:=zid (HA.out.trans (b1.mono HA.out.size));have hs1:=B1.out.size;clear b1 G0 HA;go_wp2_with fail
 go_loopw [7,8] (fun v a wr=>∃(l:List Int) (k:Nat),a= .int .i64 k/\k<=B.size/\l.length<=100/\(l.length<3\/(l.length:Int)≠l.getD 1 0+3)/\(∀n∈l,0<=n/\n<=9223372036854775807)/\OwnL IL wr w1.heap.size v l/\Below w1.heap.size w1 wr) (fun _ a _=>B.size-(intOf a).toNat)
 case atStart=>exact ⟨[],0,rfl,Nat.zero_le _,by simp,.inl (by simp),by simp,OwnL.nil _ _,Below.refl _ _⟩
 case round=>
  obtain ⟨l,k,rfl,hk,hl,hcnt,hnn,hO,hb⟩:=hrel;obtain ⟨va,vc,rfl⟩:=zkT hO;have hsz:=hb.size;have HB:=zid hb;have HO:=zid hO;have HNN:=zid hnn;have GB:=zid ((hb.block w.heap.size (Array.getElem?_eq_some_iff.1 G1.out).1).trans G1.out);have HBW:=zid (B1.out.trans (hb.mono hs1));have hI:=hO.is (by unfold maxLen;omega) (fun n hn=>by have:=hnn n hn;exact ⟨by omega,by omega⟩);have HI:=zid hI;obtain ⟨len,hlen⟩:∃len,l.length=len:=⟨_,rfl⟩;have HLEN:=zid hlen
  have hstop:len<3\/((3:Int)<=(len:Int)/\∃g off,va=some ⟨g,off,none⟩/\wr.cell? ⟨g,off+1,none⟩=some (.int .i64 (l.getD 1 0))/\(len:Int)≠l.getD 1 0+3/\0<=l.getD 1 0/\l.getD 1 0<=9223372036854775807):=by
   by_cases h3:len<3
   · exact .inl h3
   · obtain ⟨g,off,e,c0⟩:=il_at hI (show 1<l.length by omega)
     refine .inr ⟨by omega,g,off,e,c0,by rcases hcnt with h | h;omega;rw [<-hlen];exact h,hnn _ ?_⟩
     have e2:l.getD 1 0=l[1]:=by simp [List.getD_eq_getElem?_getD,show 1<l.length by omega]
     rw [e2];exact List.getElem_mem _
  rw [hlen] at hl ⊢;clear hlen hI hb hnn hO hcnt
  by_cases hgo:k<B.size/\len<100
  · have hk2:(k:Int)<(B.size:Int):=by omega
    have hl2:(len:Int)<100:=by omega
    have R:=RD.out k
    rcases ht:Vp.take (B.data.toList.drop k) with _ | ⟨n,jj⟩
    · rw [zcj ht] at R
      replace R:=zid R
      clear ht hgo;have HIS:=zid fun (g off:Nat) (W:World) (c0:wr.cell? ⟨g,off+1,none⟩=some (.int .i64 (l.getD 1 0))) (b:Below wr.heap.size wr W)=>(b.cell (p:=⟨g,off+1,none⟩) (block_lt_of_cell c0)).trans c0
      rcases hstop with h3 | ⟨h3,g,off,rfl,c0,hne,hp0,hp1⟩
      · have a1:(len:Int)<3:=by omega
        go_wp2_with fail
        refine (R.out _).mono ?_;rintro e w2 ⟨rfl,b2⟩;have GB2:=zid ((b2.block w.heap.size (Array.getElem?_eq_some_iff.1 GB.out).1).trans GB.out);have HF:=zid (zbi.mk0 3 (zdi (HBW.out.trans (b2.mono HBW.out.size)) (Nat.le_refl _) (.int .i64 0) (.slice none 0 0) (.int .i64 0) (.int .u32 0)));obtain ⟨z0,z1,z2,z3⟩:=cells4 GB2.out;obtain ⟨f0,f1,f2,f3⟩:=zcD GB2.out;clear b2;go_wp2_with fail;refine bodyPost_ret (v:= .tuple #[.agg #[.int .i64 0,.slice none 0 0,.int .i64 0,.int .u32 0],.int .i64 3]) (by simp [results,Tryz.results49,go_sem,z0,z1,z2,z3]) rfl ?_;exact HF.out
      · have a1:decide ((len:Int)<3)=false:=by simp;omega
        have HIS2:=zid fun W b=>HIS.out g off W c0 b
        generalize l.getD 1 0=f at*;obtain ⟨r,u1⟩:∃r,IntKind.i64.wrap (f+3)=r:=⟨_,rfl⟩;have hne2:¬(len:Int)=r:=fun e=>hne ((wrap3 hp0 hp1 ⟨by omega,by omega⟩).1 (u1.trans e.symm)).symm
        have a2:((len:Int) != r)=true:=by simpa using hne2
        clear hne hne2;go_wp2_with fail;refine (R.out _).mono ?_;rintro e w2 ⟨rfl,b2⟩;have GB2:=zid ((b2.block w.heap.size (Array.getElem?_eq_some_iff.1 GB.out).1).trans GB.out);have HF:=zid (zbi.mk0 3 (zdi (HBW.out.trans (b2.mono HBW.out.size)) (Nat.le_refl _) (.int .i64 0) (.slice none 0 0) (.int .i64 0) (.int .u32 0)));obtain ⟨z0,z1,z2,z3⟩:=cells4 GB2.out;obtain ⟨f0,f1,f2,f3⟩:=zcD GB2.out;have c2:=HIS2.out _ b2;clear b2;go_wp2_with fail;refine bodyPost_ret (v:= .tuple #[.agg #[.int .i64 0,.slice none 0 0,.int .i64 0,.int .u32 0],.int .i64 3]) (by simp [results,Tryz.results49,go_sem,z0,z1,z2,z3]) rfl ?_;exact HF.out
    · obtain ⟨j0,j9,jl,nl⟩:=Vp.take_some ht
      rw [List.length_drop] at jl
      obtain ⟨q,hq⟩:∃q,k+jj=q:=⟨_,rfl⟩
      have hqs:q<=B.size:=by have:B.data.toList.length=B.size:=rfl;omega
      rw [zbf ht hq] at R;replace R:=zid R;have HLS:=zid (show (l++[(n:Int)]).length=len+1 by rw [List.length_append,HLEN.out];rfl)
      have HNN2:=zid (show ∀x∈l++[(n:Int)],0<=x/\x<=9223372036854775807 from fun x hx=>by
       rw [List.mem_append] at hx
       rcases hx with hx | hx
       · exact HNN.out x hx
       · rw [List.mem_singleton] at hx;subst hx;omega)
      have HX1:=zid (show 1<=len->(IL.vals l++[.int .i64 (n:Int)])[1]?=some (.int .i64 ((l++[(n:Int)]).getD 1 0)) from fun h1=>by
       have e:IL.vals l++[.int .i64 (n:Int)]=IL.vals (l++[(n:Int)]):=by rw [IL.vals_append,IL.vals_one];rfl
       rw [e]
       exact IL.vals_get (l++[(n:Int)]) 1 0 (by rw [HLS.out];omega) (by decide))
      have hf01:2<=len->0<=(l++[(n:Int)]).getD 1 0/\(l++[(n:Int)]).getD 1 0<=9223372036854775807:=fun h=>by
       refine HNN2.out _ ?_
       have hl1:1<(l++[(n:Int)]).length:=by rw [HLS.out];omega
       have e2:(l++[(n:Int)]).getD 1 0=(l++[(n:Int)])[1]:=by simp only [List.getD_eq_getElem?_getD,List.getElem?_eq_getElem hl1,Option.getD_some]
       rw [e2];exact List.getElem_mem _
      have HOW:=zid (show wr.ownsRow w1.heap.size 3 1 (.slice va l.length vc) l.length (IL.vals l) from HO.out);rw [HLEN.out] at HOW
      have hcase:len<2\/(2<=len/\(len:Int)+1≠(l++[(n:Int)]).getD 1 0+3)\/(2<=len/\(len:Int)+1=(l++[(n:Int)]).getD 1 0+3):=by omega
      have HCN0:=zid (show (len<2\/(len:Int)+1≠(l++[(n:Int)]).getD 1 0+3)->((l++[(n:Int)]).length<3\/((l++[(n:Int)]).length:Int)≠(l++[(n:Int)]).getD 1 0+3) from fun h=>by
       rw [HLS.out]
       rcases h with h | h
       · exact .inl (by omega)
       · exact .inr (by omega))
      obtain ⟨f,hf⟩:∃f,(l++[(n:Int)]).getD 1 0=f:=⟨_,rfl⟩;rw [hf] at hf01 hcase HX1 HCN0;have HFE:=zid hf
      have hkq:k<q:=by omega
      clear hf ht hstop hgo hq;obtain ⟨r,u1⟩:∃r,IntKind.i64.wrap (f+3)=r:=⟨_,rfl⟩
      have hw3:2<=len->((len:Int)+1=r↔(len:Int)+1=f+3):=fun h=>by
       obtain ⟨h0,h1⟩:=hf01 h;have:=wrap3 h0 h1 (n:=(len:Int)+1) ⟨by omega,by omega⟩;rw [u1] at this;exact ⟨fun e=>(this.1 e.symm).symm,fun e=>(this.2 e.symm).symm⟩
      rcases hcase with h2 | ⟨h2,h3⟩ | ⟨h2,h3⟩
      · have a1:decide ((3:Int)<=(len:Int)+1)=false:=by simp;omega
        have HCN:=zid (HCN0.out (.inl h2))
        rw [<-HFE.out] at HCN;clear hf01 hw3 u1;go_wp2_with fail;refine (R.out _).mono ?_;rintro e w2 ⟨rfl,b2⟩;have HB2:=zid (HB.out.trans (b2.mono hsz));have HOW2:=zid (zau HOW.out b2);have hs2:=HB2.out.size;clear b2
        go_wp2_with (at_builtin;refine wpList_append_own _ rfl _ _ 74 rfl w1.heap.size 3 i0 (.int .i64 0) 1 8 Tryz.underlying74 hi hz0 hz1 hz2 rfl (by decide) _ _ _ rfl (HOW2.out.alloc _) ⟨w2.heap.size,0,none⟩ 1 1 [.int .i64 (n:Int)] rfl rfl (zar w2 _ _ _ rfl) (fun x hx=>by simp at hx;subst hx;rfl) (by unfold maxLen;omega) (by omega) (by simp;omega) ?_;intro v3 w3 hown3 hgrow3 hnil3;obtain ⟨g3,cap3,cur3,hv3,hg3,hh3,hc3,hm3,hz3,ht3⟩:=hown3.2.resolve_left (fun h=>by have:=h.2;omega);subst hv3;have HO3:=zid hown3;have HB3:=zid ((HB2.out.alloc hs2 (.cells [.int .i64 (n:Int)].toArray 3)).grown hgrow3 (by simp;omega) (fun p hp=>(HOW2.out.lt p hp).1));clear hown3 hgrow3 hnil3 hh3 hz3 ht3)
        go_roundw
        case rel=>exact ⟨l++[(n:Int)],q,rfl,hqs,by rw [HLS.out];omega,HCN.out,HNN2.out,by show World.ownsRow w3 _ _ _ _ _ _;rw [HLS.out,IL.vals_append,IL.vals_one];exact HO3.out,HB3.out⟩
        case measure=>simp [intOf];omega
      · have a1:decide ((3:Int)<=(len:Int)+1)=true:=by simp;omega
        have hne:¬(len:Int)+1=r:=fun e=>h3 ((hw3 h2).1 e)
        have a2:((len:Int)+1==r)=false:=by simpa using hne
        have HCN:=zid (HCN0.out (.inr h3));rw [<-HFE.out] at HCN;clear hf01 hw3 hne h3;go_wp2_with fail;refine (R.out _).mono ?_;rintro e w2 ⟨rfl,b2⟩;have HB2:=zid (HB.out.trans (b2.mono hsz));have HOW2:=zid (zau HOW.out b2);have hs2:=HB2.out.size;clear b2
        go_wp2_with (at_builtin;refine wpList_append_own _ rfl _ _ 74 rfl w1.heap.size 3 i0 (.int .i64 0) 1 8 Tryz.underlying74 hi hz0 hz1 hz2 rfl (by decide) _ _ _ rfl (HOW2.out.alloc _) ⟨w2.heap.size,0,none⟩ 1 1 [.int .i64 (n:Int)] rfl rfl (zar w2 _ _ _ rfl) (fun x hx=>by simp at hx;subst hx;rfl) (by unfold maxLen;omega) (by omega) (by simp;omega) ?_;intro v3 w3 hown3 hgrow3 hnil3;obtain ⟨g3,cap3,cur3,hv3,hg3,hh3,hc3,hm3,hz3,ht3⟩:=hown3.2.resolve_left (fun h=>by have:=h.2;omega);subst hv3;have HO3:=zid hown3;have HB3:=zid ((HB2.out.alloc hs2 (.cells [.int .i64 (n:Int)].toArray 3)).grown hgrow3 (by simp;omega) (fun p hp=>(HOW2.out.lt p hp).1));have k1:w3.cell? ⟨g3,1,none⟩=some (.int .i64 f):=hown3.cells (g:=g3) rfl 1 _ (HX1.out (by omega));clear hown3 hgrow3 hnil3 hh3 hz3 ht3)
        go_roundw
        case rel=>exact ⟨l++[(n:Int)],q,rfl,hqs,by rw [HLS.out];omega,HCN.out,HNN2.out,by show World.ownsRow w3 _ _ _ _ _ _;rw [HLS.out,IL.vals_append,IL.vals_one];exact HO3.out,HB3.out⟩
        case measure=>simp [intOf];omega
      · obtain ⟨N,hN⟩:∃N:Nat,f=(N:Int):=⟨f.toNat,by have:=hf01 h2;omega⟩
        subst hN
        have h4:len+1=N+3:=by omega
        have hn64:N<=98:=by omega
        clear hf01 hw3 u1 h3 HCN0
        have a1:decide ((3:Int)<=(len:Int)+1)=true:=by simp;omega
        have a2:((len:Int)+1==(N:Int)+3)=true:=by simp;omega
        have a3:decide ((len:Int)+1<3)=false:=by simp;omega
        by_cases hq4:B.size=q+4
        · have a4:((B.size:Int)-(q:Int) != 4)=false:=by rw [hq4];simp;omega
          have HQ4:=zid hq4
          obtain ⟨C4,hC5,hC6⟩:=four_of B q hq4;obtain ⟨m,hm1,hm2,hm3⟩:=as_man (l++[(n:Int)]) N (by rw [HLS.out];omega) HFE.out (C4:Int);have HFO:=zid hC6;have HC4:=zid hm3;have HNL:=zid hm2;have HNU:=zid hm1;have HMB:=zid (show MnB m from ⟨by have:=HNN2.out m.v (by rw [<-hm1];exact mcs);omega,by have:=HNN2.out m.z (by rw [<-hm1];unfold nums;simp);omega,by rw [hm3];omega⟩)
          have HXV:=zid (show (IL.vals l++[.int .i64 (n:Int)])[0]?=some (.int .i64 m.v)/\(IL.vals l++[.int .i64 (n:Int)])[N+2]?=some (.int .i64 m.z) from by
           have e:IL.vals l++[.int .i64 (n:Int)]=IL.vals (nums m):=by rw [hm1,IL.vals_append,IL.vals_one];rfl
           rw [e];refine ⟨rfl,?_⟩;have:=IL.vals_get (nums m) (N+2) 0 (by rw [nums_len];omega) (by decide)
           have e2:(nums m).getD (N+2) IL.z=m.z:=by
            unfold nums;rw [List.getD_cons_succ,List.getD_cons_succ,List.getD_eq_getElem?_getD,List.getElem?_append_right (by omega),hm2,Nat.sub_self]
            rfl
           rw [e2,show (N+2)*IL.k+0=N+2 from by show (N+2)*1+0=_;omega] at this
           exact this)
          clear hm1 hm2 hm3 hC6 hq4;go_wp2_with fail;refine (R.out _).mono ?_;rintro e w2 ⟨rfl,b2⟩;have HB2:=zid (HB.out.trans (b2.mono hsz));have HOW2:=zid (zau HOW.out b2);have hs2:=HB2.out.size;clear b2
          go_wp2_with (at_builtin;refine wpList_append_own _ rfl _ _ 74 rfl w1.heap.size 3 i0 (.int .i64 0) 1 8 Tryz.underlying74 hi hz0 hz1 hz2 rfl (by decide) _ _ _ rfl (HOW2.out.alloc _) ⟨w2.heap.size,0,none⟩ 1 1 [.int .i64 (n:Int)] rfl rfl (zar w2 _ _ _ rfl) (fun x hx=>by simp at hx;subst hx;rfl) (by unfold maxLen;omega) (by omega) (by simp;omega) ?_;intro v3 w3 hown3 hgrow3 hnil3;obtain ⟨g3,cap3,cur3,hv3,hg3,hh3,hc3,hm3,hz3,ht3⟩:=hown3.2.resolve_left (fun h=>by have:=h.2;omega);subst hv3;have HO3:=zid hown3;have HB3:=zid ((HB2.out.alloc hs2 (.cells [.int .i64 (n:Int)].toArray 3)).grown hgrow3 (by simp;omega) (fun p hp=>(HOW2.out.lt p hp).1));have k1:w3.cell? ⟨g3,1,none⟩=some (.int .i64 (N:Int)):=hown3.cells (g:=g3) rfl 1 _ (HX1.out (by omega));clear hown3 hgrow3 hnil3 hh3 hz3 ht3)
          have k0:w3.cell? ⟨g3,0,none⟩=some (.int .i64 m.v):=HO3.out.cells (g:=g3) rfl 0 _ HXV.out.1
          have kz:w3.cell? ⟨g3,N+2,none⟩=some (.int .i64 m.z):=by have:=HO3.out.cells (g:=g3) rfl (N+2) _ HXV.out.2;rwa [zak,Nat.zero_add] at this
          have n0:=World.new_ne w3 _ k0;have nz:=World.new_ne w3 _ kz;have hgl:=block_lt_of_cell k0
          have hcap:N+3<=cap3:=by omega
          have t0:(0:Int)<(N:Int)+3:=by omega
          have t1:(N:Int)+3-1=(N:Int)+2:=by omega
          have t2:IntKind.i64.wrap ((N:Int)+2)=(N:Int)+2:=IntWalk.i64_in _ ⟨by omega,by omega⟩
          have t3:(2:Int)<=(N:Int)+2:=by omega
          have t4:(N:Int)+2<=(cap3:Int):=by omega
          have t5:(N:Int)+2<(N:Int)+3:=by omega
          have t6:((N:Int)+2).toNat=N+2:=by omega
          have t7:(0:Int)<=(N:Int)+2:=by omega
          have t8:¬cap3=2:=by omega
          go_region_held3 (fun W=>W.cell? ⟨g3,0,none⟩=some (.int .i64 m.v)/\W.cell? ⟨g3,N+2,none⟩=some (.int .i64 m.z)) (go_keep) (fail)
          go_wp2_with fail;have D4:=zid (((Below.refl w3.heap.size w3).alloc (Nat.le_refl _) (.cells #[.int .i64 m.v,.slice (some ⟨g3,2,none⟩) N (cap3-2),.int .i64 m.z,.int .u32 0] 76)).drew)
          have G4:=zid (show ((w3.alloc (.cells #[.int .i64 m.v,.slice (some ⟨g3,2,none⟩) N (cap3-2),.int .i64 m.z,.int .u32 0] 76)).drew).heap[w3.heap.size]?=some (.cells #[.int .i64 m.v,.slice (some ⟨g3,2,none⟩) N (cap3-2),.int .i64 m.z,.int .u32 ((C4/256^4:Nat):Int)] 76 (0,0)) from by
           rw [Nat.div_eq_of_lt (by omega)]
           exact heap_alloc_new w3 _)
          clear k0 kz n0 nz k1 HOW HOW2;generalize (w3.alloc (.cells #[.int .i64 m.v,.slice (some ⟨g3,2,none⟩) N (cap3-2),.int .i64 m.z,.int .u32 0] 76)).drew=w4 at D4 G4 ⊢
          have HIS:=zid (show ∀W:World,Below w3.heap.size w3 W->IsL IL W (.slice (some ⟨g3,2,none⟩) N (cap3-2)) m.l from fun W hW=>by
           have o1:OwnL IL w3 w1.heap.size (.slice (some ⟨g3,0,none⟩) (N+3) cap3) (nums m):=by
            show World.ownsRow w3 _ _ _ _ _ _
            have e1:IL.vals (nums m)=IL.vals l++[.int .i64 (n:Int)]:=by rw [HNU.out,IL.vals_append,IL.vals_one];rfl
            rw [e1,nums_len,HNL.out, <-h4];exact HO3.out
           have i1:=o1.is (by rw [nums_len,HNL.out];unfold maxLen;omega) (fun x hx=>by rw [HNU.out] at hx;have:=HNN2.out x hx;exact ⟨by omega,by omega⟩);have i2:=(i1.take (show N+2<=N+3 by omega)).drop (k:=2) (by omega) (cap3-2) (by have:=i1.room;omega) (a:=some ⟨g3,2,none⟩) (.inl rfl);rw [show N+2-2=N from by omega] at i2
           have e3:((nums m).take (N+2)).drop 2=m.l:=by
            unfold nums;rw [List.take_succ_cons,List.take_succ_cons,List.drop_succ_cons,List.drop_succ_cons,List.drop_zero, <-HNL.out,List.take_left' rfl]
           rw [e3] at i2
           exact i2.keep hW)
          have HXL:=zid (show w.heap.size<w3.heap.size from by have:=(Array.getElem?_eq_some_iff.1 G1.out).1;have:=HB3.out.size;omega);have HTB2:=zid (show w1.heap.size<=w3.heap.size from HB3.out.size);obtain ⟨tb,htb⟩:∃tb,w3.heap.size=tb:=⟨_,rfl⟩;rw [htb] at G4 D4 HIS HXL HTB2 ⊢;have HTB:=zid htb;clear htb
          go_loopw [13] (fun x wr=>∃k:Nat,k<=4/\x= .int .i64 ((k:Int)-1)/\wr.heap[tb]?=some (.cells #[.int .i64 m.v,.slice (some ⟨g3,2,none⟩) N (cap3-2),.int .i64 m.z,.int .u32 ((C4/256^k:Nat):Int)] 76 (0,0))/\Below tb w3 wr) (fun x _=>(intOf x+1).toNat)
          case atStart=>exact ⟨4,by omega,rfl,G4.out,D4.out⟩
          case round=>
           obtain ⟨k,hk4,rfl,hG,hD⟩:=hrel;have HG:=zid hG;have HD:=zid hD;obtain ⟨y0,y1,y2,y3⟩:=cells4 hG;obtain ⟨f0,f1,f2,f3⟩:=zcD hG;clear hD
           cases k with
           | zero=>
            rw [Nat.pow_zero,Nat.div_one] at y3;have hIS:=HIS.out wr HD.out;have PT:=rput10_any (some ⟨g3,2,none⟩) N (cap3-2) m wr hIS HMB.out;unfold mnVal putVal10 at PT;rw [HC4.out] at PT;have hxl:=HXL.out;have htl:tb<wr.heap.size:=(Array.getElem?_eq_some_iff.1 hG).1;clear hG hIS
            have hPV:∃(A:ByteArray) (er:Int),(putM m).2=er/\(⟨(putM m).1.toArray⟩:ByteArray)=A/\((er=1)\/(er=0/\¬A=s)):=by
             by_cases hok:Ok m
             · refine ⟨_,_,rfl,rfl,.inr ?_⟩
               rw [putM_yes hok]
               exact ⟨rfl,fun e=>HNO.out ⟨m,hok,by rw [<-e]⟩⟩
             · refine ⟨_,_,rfl,rfl,.inl ?_⟩
               rw [putM_no hok]
            obtain ⟨A,er,e1,e2,hPV⟩:=hPV;rw [e1,e2] at PT;replace PT:=zid PT;clear e1 e2
            rcases hPV with rfl | ⟨rfl,hne3⟩
            all_goals
             try (have hne4:(A.toList==s.toList)=false:=str_no hne3;clear hne3)
             go_wp2_with fail;refine PT.out.mono ?_;rintro e w5 ⟨rfl,b5⟩;have GB:=zid ((b5.block w.heap.size (by omega)).trans ((HD.out.block w.heap.size hxl).trans ((HB3.out.block w.heap.size (Array.getElem?_eq_some_iff.1 G1.out).1).trans G1.out)));obtain ⟨z0,z1,z2,z3⟩:=cells4 GB.out;obtain ⟨e0,e1,e2,e3⟩:=zcD GB.out;have HBF:=zid (B1.out.trans ((HB3.out.trans ((HD.out.trans (b5.mono (by omega))).mono HTB2.out)).mono hs1));clear b5 y0 y1 y2 y3 f0 f1 f2 f3;go_wp2_with fail;refine bodyPost_ret (v:= .tuple #[.agg #[.int .i64 0,.slice none 0 0,.int .i64 0,.int .u32 0],.int .i64 3]) (by simp [results,Tryz.results49,go_sem,z0,z1,z2,z3]) rfl ?_;exact zbi.mk0 3 (zdi HBF.out (Nat.le_refl _) _ _ _ _)
           | succ k=>
            have hqk:q+k<B.size:=by have:=HQ4.out;omega
            obtain ⟨a,ha⟩:∃a,C4/256^(k+1)=a:=⟨_,rfl⟩;rw [ha] at y3;have HG2:=zid (show wr.heap[tb]?=some (.cells #[.int .i64 m.v,.slice (some ⟨g3,2,none⟩) N (cap3-2),.int .i64 m.z,.int .u32 (a:Int)] 76 (0,0)) from by rw [<-ha];exact HG.out)
            have ux:((k+1:Nat):Int)-1=(k:Int):=by omega
            rw [ux]
            have u1:(q:Int)+(k:Int)<(B.size:Int):=by omega
            have u2:IntKind.i64.wrap ((q:Int)+(k:Int))=(q:Int)+(k:Int):=IntWalk.i64_in _ ⟨by omega,by omega⟩
            have u3:((q:Int)+(k:Int)).toNat=q+k:=by omega
            have u4:(0:Int)<=(q:Int)+(k:Int):=by omega
            obtain ⟨y,hy⟩:∃y,(B[q+k]'hqk).toNat=y:=⟨_,rfl⟩
            have hy2:y=C4/256^k%256:=by rw [<-hy];exact HFO.out k hqk
            have hay:a*256+y=C4/256^k:=by
             rw [hy2, <-ha,Nat.pow_succ, <-Nat.div_div_eq_div_mul];omega
            have hle:C4/256^k<=C4:=Nat.div_le_self _ _;have HVL2:=zid (show ((a:Int)*256+(y:Int))%4294967296=((C4/256^k:Nat):Int) by rw [<-hay];omega);have u5:IntKind.u32.wrap ((a:Int)*256)=(a:Int)*256:=IntWalk.u32_in _ ⟨by omega,by omega⟩;have u6:IntKind.u32.wrap ((a:Int)*256+(y:Int))=(a:Int)*256+(y:Int):=IntWalk.u32_in _ ⟨by omega,by omega⟩;clear hG hy2 hay hle ha ux;go_wp2_with fail
            go_region
            go_wp2_with fail
            go_roundw
            case rel=>
             refine ⟨k,by omega,by go_num,?_,(HD.out.setCell (p:=⟨tb,3,none⟩) (Nat.le_refl _) _).drew⟩;rw [HVL2.out];exact heap_setCell_same wr tb 3 _ _ _ HG2.out
            case measure=>simp [intOf]
        · have a4:((B.size:Int)-(q:Int) != 4)=true:=by simp;omega
          clear hq4
          go_wp2_with fail;refine (R.out _).mono ?_;rintro e w2 ⟨rfl,b2⟩;have HB2:=zid (HB.out.trans (b2.mono hsz));have HOW2:=zid (zau HOW.out b2);have hs2:=HB2.out.size;clear b2
          go_wp2_with (at_builtin;refine wpList_append_own _ rfl _ _ 74 rfl w1.heap.size 3 i0 (.int .i64 0) 1 8 Tryz.underlying74 hi hz0 hz1 hz2 rfl (by decide) _ _ _ rfl (HOW2.out.alloc _) ⟨w2.heap.size,0,none⟩ 1 1 [.int .i64 (n:Int)] rfl rfl (zar w2 _ _ _ rfl) (fun x hx=>by simp at hx;subst hx;rfl) (by unfold maxLen;omega) (by omega) (by simp;omega) ?_;intro v3 w3 hown3 hgrow3 hnil3;obtain ⟨g3,cap3,cur3,hv3,hg3,hh3,hc3,hm3,hz3,ht3⟩:=hown3.2.resolve_left (fun h=>by have:=h.2;omega);subst hv3;have HO3:=zid hown3;have HB3:=zid ((HB2.out.alloc hs2 (.cells [.int .i64 (n:Int)].toArray 3)).grown hgrow3 (by simp;omega) (fun p hp=>(HOW2.out.lt p hp).1));have k1:w3.cell? ⟨g3,1,none⟩=some (.int .i64 (N:Int)):=hown3.cells (g:=g3) rfl 1 _ (HX1.out (by omega));clear hown3 hgrow3 hnil3 hh3 hz3 ht3;have GB:=zid ((HB3.out.block w.heap.size (Array.getElem?_eq_some_iff.1 G1.out).1).trans G1.out);obtain ⟨z0,z1,z2,z3⟩:=cells4 GB.out;obtain ⟨f0,f1,f2,f3⟩:=zcD GB.out;have HBF:=zid (B1.out.trans (HB3.out.mono hs1)))
          refine bodyPost_ret (v:= .tuple #[.agg #[.int .i64 0,.slice none 0 0,.int .i64 0,.int .u32 0],.int .i64 3]) (by simp [results,Tryz.results49,go_sem,z0,z1,z2,z3]) rfl ?_;exact zbi.mk0 3 (zdi HBF.out (Nat.le_refl _) _ _ _ _)
  · obtain ⟨z0,z1,z2,z3⟩:=cells4 GB.out
    obtain ⟨f0,f1,f2,f3⟩:=zcD GB.out
    have HF:=zid (zbi.mk0 3 (zdi HBW.out (Nat.le_refl _) (.int .i64 0) (.slice none 0 0) (.int .i64 0) (.int .u32 0)))
    have hgo2:(B.size:Int)<=(k:Int)\/((k:Int)<(B.size:Int)/\(100:Int)<=(len:Int)):=by omega
    clear hgo
    rcases hstop with h3 | ⟨h3,g,off,rfl,c0,hne,hp0,hp1⟩
    · have a1:(len:Int)<3:=by omega
      have a3:¬(100:Int)<=(len:Int):=by omega
      have a2:(B.size:Int)<=(k:Int):=by omega
      clear hgo2 a3;go_wp2_with fail;refine bodyPost_ret (v:= .tuple #[.agg #[.int .i64 0,.slice none 0 0,.int .i64 0,.int .u32 0],.int .i64 3]) (by simp [results,Tryz.results49,go_sem,z0,z1,z2,z3]) rfl ?_;exact HF.out
    · have a1:decide ((len:Int)<3)=false:=by simp;omega
      generalize l.getD 1 0=f at*
      obtain ⟨r,u1⟩:∃r,IntKind.i64.wrap (f+3)=r:=⟨_,rfl⟩;have hne2:¬(len:Int)=r:=fun e=>hne ((wrap3 hp0 hp1 ⟨by omega,by omega⟩).1 (u1.trans e.symm)).symm
      have a2:((len:Int) != r)=true:=by simpa using hne2
      have a3:((len:Int)==r)=false:=by simpa using hne2
      clear hne hne2
      rcases hgo2 with h4 | ⟨h4,h5⟩
      · go_wp2_with fail
        refine bodyPost_ret (v:= .tuple #[.agg #[.int .i64 0,.slice none 0 0,.int .i64 0,.int .u32 0],.int .i64 3]) (by simp [results,Tryz.results49,go_sem,z0,z1,z2,z3]) rfl ?_
        exact HF.out
      · go_wp2_with fail
        refine bodyPost_ret (v:= .tuple #[.agg #[.int .i64 0,.slice none 0 0,.int .i64 0,.int .u32 0],.int .i64 3]) (by simp [results,Tryz.results49,go_sem,z0,z1,z2,z3]) rfl ?_
        exact HF.out
theorem rget10_any (s:ByteArray) (w:World) (hs:s.size<=140737488351232):
 Calls Tryz.prog 49 #[.string s] w (zbi w (getM s.data.toList)):=by
 rcases Fr.nx_cases s.data.toList with ⟨er,h,he⟩ | ⟨j,b,h,_,_,hb,_⟩
 · exact zjq s er w hs h he
 · by_cases hx:∃m,Ok m/\Fr.fr (body m)=s.data.toList
   · obtain ⟨m,hm,e⟩:=hx
     exact zjp s m w hm e.symm
   · exact zkB s j b w hs h hb hx
end Mfs
namespace Ro
open Go.RowKit So Dsk Rts Sto
def zS:Obj:= .cells #[.slice none 0 0,.int .i64 0,.bool false,.int .i64 0,.bool false,.int .i64 0,.slice none 0 0,.int .i64 0,.int .i64 0,.int .i64 0,.int .u32 0] 31
theorem zge {D:Dp.Dk} {l:List Int} {gs:List Rt.Sg} (h:Lg.segA D l=some gs):gs=l.map (Lg.segG D):=by
 unfold Lg.segA at h
 split at h
 · exact (Option.some.inj h).symm
 · cases h
end Ro
end Go.Proofs.YtgmppfpllogdcaaGreat

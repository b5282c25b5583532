/-
  Parts of what the laws of this seat stand on:FrameNext,VarRref,FrameRef,ManPut,DiskRef5.
-/
import Derived.Deep.DeepCutAuto
import Derived.Deep.RegionHeld3
import Derived.Deep.RegionWith
import Derived.IntWalk
import Derived.Lib.Hide
import Derived.Lib.Strings
import Derived.Test.YtgmppfpllogdcaaGreatBi1
import Derived.Test.YtgmppfpllogdcaaGreatBi13
import Derived.Test.YtgmppfpllogdcaaGreatBi14
import Derived.Test.YtgmppfpllogdcaaGreatBi15
set_option maxRecDepth 100000
set_option maxHeartbeats 6400000
namespace Go.Proofs.YtgmppfpllogdcaaGreat
section
open Go.RowKit
def zhQ (s:ByteArray) (k:Nat):Value:=
 match Fr.nx (s.data.toList.drop k) with
 | (0,j,b)=> .tuple #[.string ⟨b.toArray⟩,.int .i64 ((k+j:Nat):Int),.int .i64 0]
 | (e+1,_,_)=> .tuple #[.string ⟨#[]⟩,.int .i64 0,.int .i64 ((e+1:Nat):Int)]
theorem zb2 {s:ByteArray} {k e:Nat} (h:Fr.nx (s.data.toList.drop k)=(e,0,[])) (he:e≠0):zhQ s k= .tuple #[.string ⟨#[]⟩,.int .i64 0,.int .i64 (e:Int)]:=by
 unfold zhQ;rw [h];obtain ⟨e,rfl⟩:∃e',e=e'+1:=⟨e-1,by omega⟩
 rfl
theorem zdt {s:ByteArray} {k j:Nat} {b:List UInt8} (h:Fr.nx (s.data.toList.drop k)=(0,j,b)):zhQ s k= .tuple #[.string ⟨b.toArray⟩,.int .i64 ((k+j:Nat):Int),.int .i64 0]:=by
 unfold zhQ;rw [h]
def nxAt (s:ByteArray) (i:Int):Value:=if i<0 then .tuple #[.string ⟨#[]⟩,.int .i64 0,.int .i64 2] else zhQ s i.toNat
theorem nxAt_out {s:ByteArray} {i:Int} (h:i<0\/(s.size:Int)<=i):nxAt s i= .tuple #[.string ⟨#[]⟩,.int .i64 0,.int .i64 2]:=by
 unfold nxAt
 split
 · rfl
 · exact zb2 (e:=2) (by rw [List.drop_eq_nil_of_le (by show s.size<=i.toNat;omega)];exact Fr.nx_cut rfl) (by omega)
theorem zeq (s:ByteArray) (k:Nat):nxAt s (k:Int)=zhQ s k:=by unfold nxAt;rw [if_neg (by omega)];simp
theorem zjx:∀(k i n:Nat),n<128^(i+1)->(Vp.putF k n).length<=i+1:=by
 intro k
 induction k with
 | zero=>intro i n _;simp [Vp.putF]
 | succ k ih=>
  intro i n h;rw [Vp.putF]
  by_cases hn:n<128
  · rw [if_pos hn];simp
  · rw [if_neg hn]
    cases i with
    | zero=>simp at h;omega
    | succ i=>
     have:=ih i (n/128) (by rw [Nat.pow_succ] at h;omega)
     simpa using this
theorem zaX.same {l:List UInt8} {i n:Nat} {b:UInt8} (h:zaX l i n) (h9:i<9) (hb:l[i]?=some b) (h128:b.toNat<128):
 (Vp.put (n+b.toNat*128^i)=l.take (i+1))↔ ¬(b.toNat=0/\0<i):=by
 constructor
 · rintro he ⟨h0,hi⟩
   obtain ⟨j,rfl⟩:∃j,i=j+1:=⟨i-1,by omega⟩
   have hlen:=congrArg List.length he;have hlt:=(List.getElem?_eq_some_iff.1 hb).1;rw [List.length_take,h0] at hlen;have:=zjx 9 j n h.1
   have e:n+0*128^(j+1)=n:=by omega
   rw [e] at hlen;unfold Vp.put at hlen;omega
 · intro h0
   exact Vp.put_take (h.done h9 hb h128 h0)
theorem zks (s:ByteArray) (i:Int) (w:World) (h:i<0\/(s.size:Int)<=i):
 Calls Tryz.prog 38 #[.string s,.int .i64 i] w fun e w'=>e= .returned (.tuple #[.int .i64 0,.int .i64 0,.bool false])/\w=w':=by
 by_cases h0:i<0
 · go_enter Tryz.func38,Tryz.ntmps38
   go_wp2
   go_ret3;exact ⟨rfl,rfl⟩
 · have h1:(s.size:Int)<=i:=by omega
   clear h
   go_enter Tryz.func38,Tryz.ntmps38
   go_wp2
   go_ret3;exact ⟨rfl,rfl⟩
theorem zkt {n p x:Nat} (hn:n<p) (hp:p<=72057594037927936) (_hx:x<256):wrap64 ((n:Int)+wrap64 ((x:Int)%128*(p:Int)))=((n+x%128*p:Nat):Int):=by
 have h2:x%128*p<=127*p:=Nat.mul_le_mul_right _ (by omega)
 have e:(x:Int)%128*(p:Int)=((x%128*p:Nat):Int):=by simp
 rw [e];generalize x%128*p=y at*;rw [IntWalk.wrap64_in (y:Int) ⟨by omega,by omega⟩,IntWalk.wrap64_in _ ⟨by omega,by omega⟩];omega
theorem mul_128 {i p:Nat} (h8:i<8) (hp:128^i=p):wrap64 ((p:Int)*128)=((128^(i+1):Nat):Int):=by
 have h1:128^i<=128^7:=Nat.pow_le_pow_right (by omega) (by omega)
 have h2:p<=562949953421312:=by rw [<-hp];exact h1
 rw [IntWalk.wrap64_in _ ⟨by omega,by omega⟩,Nat.pow_succ,hp];omega
theorem zfO {w w':World} (h:Below w.drew.heap.size w.drew w'):Below w.heap.size w w':=⟨h.os,h.tape,h.output,h.size,h.block⟩
theorem putI_nat (n:Nat):putI (n:Int)=Vp.put n:=by
 unfold putI;rw [if_neg (by omega)];simp
theorem zdZ (n:Nat) (w:World) (h:n<=9223372036854775807):
 Calls Tryz.prog 76 #[.int .i64 n] w fun e w'=>e= .returned (.string ⟨(Vp.put n).toArray⟩)/\Below w.heap.size w w':=by
 rw [<-putI_nat];exact zcY n w (by omega) (by omega)
theorem slice_at (s:ByteArray) (k i:Nat) (h:k+i<s.size):∀w:World,(Instr.slice 9 (.string s) (some (.int .i64 (k:Int))) (some (.int .i64 ((k:Int)+(i:Int)+1))) none).run Tryz.prog w= .ok (.string (s.extract k (k+i+1))) w:=by
 intro w;have:=run_slice_string (P:=Tryz.prog) w 9 s .i64 .i64 (k:Int) ((k:Int)+(i:Int)+1) Tryz.underlying9 (by omega) (by omega) (by omega);rw [this]
 congr 3
theorem rread_in (s:ByteArray) (k:Nat) (w:World) (hs:s.size<=9223372036854775807) (h:k<s.size):
 Calls Tryz.prog 38 #[.string s,.int .i64 k] w fun e w'=>e= .returned (zeL (s.data.toList.drop k) k)/\Below w.heap.size w w':=by
 have hL:(s.data.toList.drop k).length=s.size-k:=by rw [List.length_drop];rfl
 have HL:=zid hL;clear hL
 have hd1:decide (s.size<=k)=false:=by simpa using h
 have hd2:decide ((k:Int)<0)=false:=by simp
 have hd3:decide ((s.size:Int)<=(k:Int))=false:=by simp;omega
 go_enter Tryz.func38,Tryz.ntmps38
 go_wp2
 go_loopw [7,8,9] (fun a u b wr=>∃i n:Nat,i<=9/\i<=s.size-k/\a= .int .i64 n/\(i<9->u= .int .i64 ((128^i:Nat):Int))/\b= .int .i64 i/\zaX (s.data.toList.drop k) i n/\wr=w) (fun _ _ b _=>9-(intOf b).toNat)
 case atStart=>exact ⟨0,0,by omega,by omega,rfl,fun _=>rfl,rfl,zaX.start _,rfl⟩
 case round=>
  obtain ⟨i,n,hi9,hil,rfl,hu,rfl,hr,rfl⟩:=hrel
  by_cases hlt:i<s.size-k
  · by_cases h9:i<9
    · obtain rfl:=hu h9
      clear hu
      have hki:k+i<s.size:=by omega
      have hb:(s.data.toList.drop k)[i]?=some s[k+i]:=by
       rw [List.getElem?_drop,Array.getElem?_toList,Array.getElem?_eq_getElem (by exact hki)]
       rfl
      have HB:=zid hb
      have h256:((s[k+i].toNat:Nat):Int)<256:=by have:=s[k+i].toNat_lt;omega
      have hp1:(128^i:Nat)<=128^8:=Nat.pow_le_pow_right (by omega) (by omega);have hn1:=hr.1;obtain ⟨p,hp⟩:∃p,128^i=p:=⟨_,rfl⟩;rw [hp] at hp1 hn1;have hp2:p<=72057594037927936:=hp1;clear hp1;have HP:=zid hp;rw [hp];clear hp hb;have hnum:=zkt hn1 hp2 s[k+i].toNat_lt;obtain ⟨N,hN⟩:∃N:Nat,N=n+s[k+i].toNat%128*p:=⟨_,rfl⟩;rw [<-hN] at hnum;have HN:=zid hN
      have hNb:N<=9223372036854775807:=by
       have:s[k+i].toNat%128*p<=127*p:=Nat.mul_le_mul_right _ (by omega);omega
      clear hN;have HX:=zid hnum;clear hnum
      by_cases hlo:s[k+i].toNat<128
      · have hlo':((s[k+i].toNat:Nat):Int)<128:=by omega
        go_wp2_with fail
        rw [HX.out];have hsl:=slice_at s k i hki;have hw1:IntKind.i64.wrap ((k:Int)+(i:Int))=(k:Int)+(i:Int):=IntWalk.i64_in _ ⟨by omega,by omega⟩;have hw2:IntKind.i64.wrap ((k:Int)+(i:Int)+1)=(k:Int)+(i:Int)+1:=IntWalk.i64_in _ ⟨by omega,by omega⟩
        have hb1:(k:Int)<=(k:Int)+(i:Int)+1:=by omega
        have hb2:(k:Int)+(i:Int)+1<=(s.size:Int):=by omega
        have hb3:0<=(k:Int)+(i:Int)+1:=by omega
        go_cut [54] (fun v w2=>∃c:Bool,v= .bool c/\(c=false↔Vp.put N=(s.data.toList.drop k).take (i+1))/\Below wr.heap.size wr w2)
        case first=>
         go_region_with (go_at_call 76;refine (zdZ _ _ hNb).mono ?_;rintro e w' ⟨rfl,hb⟩)
         go_wp2_with fail;go_meet
         case rel=>
          refine ⟨_,rfl,?_,zfO hb⟩;rw [Lib.toList_data,Lib.extract_data,show k+i+1-k=i+1 from by omega]
          simp
        case rest=>
         obtain ⟨c,rfl,hc,hb⟩:=hcut
         have hN:N=n+s[k+i].toNat*p:=by rw [HN.out,Nat.mod_eq_of_lt hlo]
         have hsame:=(hr.same h9 HB.out hlo);rw [HP.out, <-hN] at hsame;have hdone:=hr.done h9 HB.out hlo;rw [HP.out, <-hN] at hdone;clear hN
         cases c with
         | false=>
          have HV:=zid (zci k (hdone (hsame.1 (hc.1 rfl))));clear hsame hdone hc;go_wp2_with fail;go_ret3;refine ⟨?_,hb⟩;rw [HV.out];refine congrArg Ending.returned ?_;show Value.tuple #[.int .i64 (N:Int),.int .i64 ((k:Int)+(i:Int)+1),.bool true]=_;rw [show (k:Int)+(i:Int)+1=(k:Int)+((i+1:Nat):Int) from by omega]
         | true=>
          have hz:s[k+i].toNat=0/\0<i:=by
           rcases Classical.em (s[k+i].toNat=0/\0<i) with h | h
           · exact h
           · have:=hc.2 (hsame.2 h)
             cases this
          have HV:=zid (za0 k (hr.zero h9 HB.out hz.1 hz.2));clear hsame hdone hc hz;go_wp2_with fail;go_ret3;refine ⟨?_,hb⟩;rw [HV.out]
          rfl
      · have hlo':128<=((s[k+i].toNat:Nat):Int):=by omega
        have hstep:=hr.step h9 HB.out (by omega)
        have e:=HN.out;rw [<-HP.out] at e;rw [<-e] at hstep;clear e;have HT:=zid hstep;clear hstep
        by_cases h8:i<8
        · go_wp2_with fail
          rw [HX.out]
          go_roundw
          case rel=>exact ⟨i+1,N,by omega,by omega,rfl,fun _=>congrArg (Value.int .i64) (mul_128 h8 HP.out),by go_num,HT.out,by trivial⟩
          case measure=>simp [intOf];omega
        · go_wp2_with fail
          rw [HX.out]
          go_roundw
          case rel=>exact ⟨i+1,N,by omega,by omega,rfl,fun h=>absurd h (by omega),by go_num,HT.out,by trivial⟩
          case measure=>simp [intOf];omega
    · clear hu
      go_wp2_with fail
      go_ret3;exact ⟨by rw [za0 k (hr.stop (.inl (by omega)))];rfl,Below.refl _ _⟩
  · clear hu
    by_cases h9:i<9
    all_goals
     go_wp2_with fail
     go_ret3;exact ⟨by rw [za0 k (hr.stop (.inr (by rw [HL.out];omega)))];rfl,Below.refl _ _⟩
theorem rread_any (s:ByteArray) (i:Int) (w:World) (hs:s.size<=9223372036854775807):
 Calls Tryz.prog 38 #[.string s,.int .i64 i] w fun e w'=>e= .returned (rdAt s i)/\Below w.heap.size w w':=by
 by_cases h:i<0\/(s.size:Int)<=i
 · rw [ziu h]
   exact (zks s i w h).mono fun _ _ ⟨he,hw⟩=>⟨he,by rw [<-hw];exact Below.refl _ _⟩
 · obtain ⟨k,rfl⟩:∃k:Nat,i=(k:Int):=⟨i.toNat,by omega⟩
   have e:rdAt s (k:Int)=zeL (s.data.toList.drop k) k:=by unfold rdAt;rw [if_neg (by omega)];simp
   rw [e];exact rread_in s k w hs (by omega)
theorem rof_any (s:ByteArray) (w:World) (hs:s.size<=maxLen):
 Calls Tryz.prog 31 #[.string s] w fun e w'=>e= .returned (.int .u32 (Cp.sum 0 s.data.toList:Nat))/\w=w':=by
 have C:=zid fun W:World=>zhC 0 s W (by omega) hs;generalize Cp.sum 0 s.data.toList=X at C ⊢
 go_enter Tryz.func31,Tryz.ntmps31
 go_wp2_with fail;refine (C.out _).mono ?_;rintro e w' ⟨rfl,rfl⟩;go_wp2_with fail;go_ret;exact ⟨rfl,rfl⟩
theorem zen (s:ByteArray) (w:World) (h:Fr.May s.size):
 Calls Tryz.prog 80 #[.string s] w fun e w'=>e= .returned (.tuple #[.string ⟨(Fr.fr s.data.toList).toArray⟩,.int .i64 0])/\Below w.heap.size w w':=by
 have hb:(s.size:Int)<=65536:=by have:=h.2;omega
 have hb1:1<=(s.size:Int):=by have:=h.1;omega
 have D:=zid fun W:World=>zcY (s.size:Int) W (by omega) (by omega)
 have e0:putI (s.size:Int)=Vp.put s.data.toList.length:=by rw [show s.data.toList.length=s.size from by simp];unfold putI;rw [if_neg (by omega)];simp
 rw [e0] at D;have hpl:=Vp.put_len_le s.data.toList.length;have E:=zid fun W:World=>rof_any (⟨(Vp.put s.data.toList.length).toArray⟩++s) W (by rw [ByteArray.size_append,zaO];unfold maxLen;omega)
 have e1:(⟨(Vp.put s.data.toList.length).toArray⟩++s:ByteArray).data.toList=Vp.put s.data.toList.length++s.data.toList:=by simp
 rw [e1] at E;have F:=zid fun W:World=>zgp (Cp.sum 0 (Vp.put s.data.toList.length++s.data.toList)) W (Cp.sum_lt _ _);rw [zgW] at F;unfold Fr.fr;rw [<-zgV];obtain ⟨P,hP⟩:∃P,Vp.put s.data.toList.length=P:=⟨_,rfl⟩;rw [hP] at D E F hpl ⊢;clear hP e0 e1 h;obtain ⟨X,hX⟩:∃X,Cp.sum 0 (P++s.data.toList)=X:=⟨_,rfl⟩;rw [hX] at E F ⊢;clear hX
 have hfl:(Fr.four X).length<=4:=by rw [Fr.four_len];exact Nat.le_refl _
 generalize Fr.four X=f at F hfl ⊢
 go_enter Tryz.func80,Tryz.ntmps80
 go_wp2_with fail;refine (D.out _).mono ?_;rintro e w1 ⟨rfl,b1⟩;go_wp2_with fail;refine (E.out _).mono ?_;rintro e w2 ⟨rfl,rfl⟩;go_wp2_with fail;refine (F.out _).mono ?_;rintro e w3 ⟨rfl,b3⟩;go_wp2_with fail;go_ret2;exact ⟨rfl,zah b1 b3⟩
theorem zll (l:List UInt8) (i:Nat) (h:i<l.length):Fr.highB (l.take (i+1))=(Fr.highB (l.take i)&&decide (128<=l[i].toNat)):=by
 rw [List.take_succ_eq_append_getElem h];unfold Fr.highB;rw [List.all_append]
 simp
theorem cut_low (l:List UInt8) (i:Nat) (h:i<l.length) (hb:l[i].toNat<128):Fr.cutB l=false:=by
 unfold Fr.cutB;rw [Bool.and_eq_false_iff]
 right
 rw [List.all_eq_false];exact ⟨l[i],List.getElem_mem _,by simpa using hb⟩
theorem cut_high (l:List UInt8) (h:Fr.highB l=true):Fr.cutB l=decide (l.length<=8):=by
 unfold Fr.cutB;unfold Fr.highB at h;rw [h,Bool.and_true]
theorem drop_get (s:ByteArray) (k i q:Nat) (hq:k+i=q) (h:q<s.size):((s.data.toList.drop k)[i]'(by rw [List.length_drop];show i<s.size-k;omega))=s[q]:=by
 subst hq;rw [List.getElem_drop];rfl
theorem zkD (s:ByteArray) (k:Nat) (w:World) (hs:s.size<=maxLen) (hk:k<=s.size):
 Calls Tryz.prog 108 #[.string s,.int .i64 k] w fun e w'=>e= .returned (.bool (Fr.cutB (s.data.toList.drop k)))/\w=w':=by
 unfold maxLen at hs
 have hL:(s.data.toList.drop k).length=s.size-k:=by rw [List.length_drop];rfl
 have HL:=zid hL;clear hL
 go_enter Tryz.func108,Tryz.ntmps108
 go_wp2_with fail
 go_loop [5] (fun x=>∃i:Nat,k+i<=s.size/\x= .int .i64 ((k+i:Nat):Int)/\Fr.highB ((s.data.toList.drop k).take i)=true) (fun x=>s.size-(intOf x).toNat)
 case atStart=>exact ⟨0,hk,rfl,rfl⟩
 case round=>
  obtain ⟨i,hi,rfl,hr⟩:=hrel;have HR:=zid hr;clear hr;obtain ⟨q,hq⟩:∃q,k+i=q:=⟨_,rfl⟩;have HQ:=zid hq;rw [hq] at hi ⊢
  by_cases hlt:q<s.size
  · have hg:=drop_get s k i q hq hlt
    have hsn:=zll (s.data.toList.drop k) i (by rw [HL.out];omega)
    have hlo:=cut_low (s.data.toList.drop k) i (by rw [HL.out];omega);rw [hg] at hsn hlo;have HN:=zid hsn;clear hsn hg hq
    by_cases hb:s[q].toNat<128
    · have HZ:=zid (hlo hb)
      have hb':((s[q].toNat:Nat):Int)<128:=by omega
      clear hlo;go_wp2_with fail;go_ret;exact ⟨by rw [HZ.out];rfl,rfl⟩
    · have hb':128<=((s[q].toNat:Nat):Int):=by omega
      have HZ:=zid (show 128<=s[q].toNat by omega)
      clear hb hlo;go_wp2_with fail
      go_round
      case rel=>exact ⟨i+1,by have:=HQ.out;omega,by have:=HQ.out;rw [<-this];go_num,by rw [HN.out,HR.out];simpa using HZ.out⟩
      case measure=>simp [intOf];omega
  · have HZ:=zid (cut_high (s.data.toList.drop k) (by have:=HR.out;rwa [List.take_of_length_le (by rw [HL.out];omega)] at this))
    clear hq
    go_wp2_with fail;go_ret;refine ⟨?_,rfl⟩;rw [HZ.out,HL.out];refine congrArg (fun b=>Ending.returned (.bool b)) ?_;show decide (_:Prop)=_;rw [decide_eq_decide];omega
theorem zjr (s:ByteArray) (i:Int) (w:World) (h:i<0\/(s.size:Int)<=i):
 Calls Tryz.prog 84 #[.string s,.int .i64 i] w fun e w'=>e= .returned (.tuple #[.string ⟨#[]⟩,.int .i64 0,.int .i64 2])/\w=w':=by
 by_cases h0:i<0
 · clear h
   go_enter Tryz.func84,Tryz.ntmps84
   go_wp2_with fail;go_ret3;exact ⟨rfl,rfl⟩
 · have h1:(s.size:Int)<=i:=by omega
   clear h
   go_enter Tryz.func84,Tryz.ntmps84
   go_wp2_with fail;go_ret3;exact ⟨rfl,rfl⟩
end
namespace Mfs
open Go.RowKit Qm
theorem zcM {n:Int} (h:0<=n):putI n=Vp.put n.toNat:=by unfold putI;rw [if_neg (by omega)]
theorem zeM {w w1 w2:World} {a:Nat} {x y z u:Value} (h:w1.cell? ⟨a,0,none⟩=some x/\w1.cell? ⟨a,1,none⟩=some y/\w1.cell? ⟨a,2,none⟩=some z/\w1.cell? ⟨a,3,none⟩=some u/\Below w.heap.size w w1) (b:Below w1.heap.size w1 w2):
 w2.cell? ⟨a,0,none⟩=some x/\w2.cell? ⟨a,1,none⟩=some y/\w2.cell? ⟨a,2,none⟩=some z/\w2.cell? ⟨a,3,none⟩=some u/\Below w.heap.size w w2:=
 ⟨(b.cell (p:=⟨a,0,none⟩) (block_lt_of_cell h.1)).trans h.1,(b.cell (p:=⟨a,1,none⟩) (block_lt_of_cell h.2.1)).trans h.2.1,(b.cell (p:=⟨a,2,none⟩) (block_lt_of_cell h.2.2.1)).trans h.2.2.1,(b.cell (p:=⟨a,3,none⟩) (block_lt_of_cell h.2.2.2.1)).trans h.2.2.2.1,h.2.2.2.2.trans (b.mono h.2.2.2.2.size)⟩
theorem keep4r {w w1:World} {a:Nat} {x y z u:Value} (h:w1.cell? ⟨a,0,none⟩=some x/\w1.cell? ⟨a,1,none⟩=some y/\w1.cell? ⟨a,2,none⟩=some z/\w1.cell? ⟨a,3,none⟩=some u/\Below w.heap.size w w1):Below w.heap.size w w1:=h.2.2.2.2
noncomputable def putVal10 (m:Mn):Value:= .tuple #[.string ⟨(putM m).1.toArray⟩,.int .i64 (putM m).2]
theorem zku (fa:Option Addr) (fn fc:Nat) (m:Mn) (w:World) (hv:IsL IL w (.slice fa fn fc) m.l) (hB:MnB m) (h:¬Ok m):
 Calls Tryz.prog 85 #[mnVal fa fn fc m] w fun e w'=>e= .returned (putVal10 m)/\Below w.heap.size w w':=by
 unfold putVal10;rw [putM_no h];dsimp only;have HA:=zid ((Below.refl w.heap.size w).alloc (Nat.le_refl _) (.cells #[.int .i64 m.v,.slice fa fn fc,.int .i64 m.z,.int .u32 m.c] 76));have RR:=zdO fa fn fc m false _ (hv.keep HA.out) hB ⟨(fun h=>by cases h),fun hk=>absurd hk h⟩;unfold mnVal at*;replace RR:=zid RR;obtain ⟨mv,ml,mz,mc⟩:=m;dsimp only at*;clear hv h
 go_enter Tryz.func85,Tryz.ntmps85
 go_wp2_with fail;refine RR.out.mono ?_;rintro e w1 ⟨rfl,b1⟩;have B1:=zid (HA.out.trans (b1.mono HA.out.size));clear b1;go_wp2_with fail;go_ret2;exact ⟨rfl,B1.out⟩
theorem zeS (fa:Option Addr) (fn fc:Nat) (m:Mn) (w:World) (hv:IsL IL w (.slice fa fn fc) m.l) (h:Ok m):
 Calls Tryz.prog 85 #[mnVal fa fn fc m] w fun e w'=>e= .returned (putVal10 m)/\Below w.heap.size w w':=by
 unfold putVal10;rw [putM_yes h];dsimp only;have hnn:=zbA h
 have hB:MnB m:=⟨⟨by have:=h.v0;omega,by have:=h.v1;omega⟩,by rcases h.z with ⟨_,h1,_⟩ | ⟨_,h1,h2⟩<;>omega,h.c⟩
 have HA:=zid ((Below.refl w.heap.size w).alloc (Nat.le_refl _) (.cells #[.int .i64 m.v,.slice fa fn fc,.int .i64 m.z,.int .u32 m.c] 76));have G0:=zid (heap_alloc_new w (.cells #[.int .i64 m.v,.slice fa fn fc,.int .i64 m.z,.int .u32 m.c] 76));have RR:=zdO fa fn fc m true _ (hv.keep HA.out) hB ⟨fun _=>h,fun _=>rfl⟩;unfold mnVal at*;replace RR:=zid RR;have HV:=zid hv;have hfl:=hv.len.1;obtain ⟨C,hC⟩:∃C:Nat,m.c=(C:Int):=⟨m.c.toNat,by have:=h.c;omega⟩
 have hC2:C<4294967296:=by have:=h.c;omega
 have hv0:=h.v0;have hv1:=h.v1
 have hn0:fn<=64:=by rw [hfl];exact h.n1
 have hz0:0<=m.z/\m.z<=65536:=by rcases h.z with ⟨_,h1,_⟩ | ⟨_,h1,h2⟩<;>omega
 have HL:=zid fun i (hi:i<fn)=>hnn (m.l.getD i 0) (by
  unfold nums;rw [hfl] at hi
  have e:m.l.getD i 0=m.l[i]:=by simp [List.getD_eq_getElem?_getD,hi]
  rw [e]
  simp)
 have HTK:=zid fun i (hi:i<fn)=>(show m.l.take (i+1)=m.l.take i++[m.l.getD i 0] from zbv (by rw [<-hfl];exact hi))
 have HFR:=zid fun (B:ByteArray) (hb:B.data.toList=body m) (W:World)=>(show Calls Tryz.prog 80 #[.string B] W fun e w'=>e= .returned (.tuple #[.string ⟨(Fr.fr (body m)).toArray⟩,.int .i64 0])/\Below W.heap.size W w' from by
  have hs:B.size=(body m).length:=by rw [<-hb];rfl
  have:=zen B W (by rw [hs];exact body_may h);rw [hb] at this
  exact this)
 have HBD:=zid (show ∀R,R=puts (m.v::(fn:Int)::m.l.take fn)->(⟨R.toArray⟩++⟨(putI m.z).toArray⟩++⟨(zew C).toArray⟩:ByteArray).data.toList=body m from fun R hR=>by
  subst hR;have e1:m.l.take fn=m.l:=List.take_of_length_le (by rw [hfl];exact Nat.le_refl _);rw [e1,zcM hz0.1];show puts (m.v::(fn:Int)::m.l)++Vp.put m.z.toNat++zew C=_;unfold body nums;rw [hC,show ((C:Int)).toNat=C from by omega,show (m.v::(m.l.length:Int)::(m.l++[m.z]))=(m.v::(m.l.length:Int)::m.l)++[m.z] from rfl,zaV,zds,hfl]
  rfl)
 obtain ⟨mv,ml,mz,mc⟩:=m;dsimp only at*;subst hC;clear hv h hnn hfl;have hpl:(putI mz).length<=9:=za3 _;have hp1:(putI mv).length<=9:=za3 _;have hp2:(putI (fn:Int)).length<=9:=za3 _
 have s1:¬9223372036854775807<(putI mv).length+(putI (fn:Int)).length:=by omega
 have HP0:=zid (show (⟨(putI mv).toArray⟩++⟨(putI (fn:Int)).toArray⟩:ByteArray)=⟨(puts (mv::(fn:Int)::ml.take 0)).toArray⟩ by
  rw [ByteArray.mk_append_mk,zcM (by omega),zcM (by omega),List.take_zero,zbG,zbG,ziv,List.append_nil])
 go_enter Tryz.func85,Tryz.ntmps85
 go_wp2_with fail;refine RR.out.mono ?_;rintro e w1 ⟨rfl,b1⟩;have G1:=zid ((b1.block w.heap.size (Array.getElem?_eq_some_iff.1 G0.out).1).trans G0.out);have B1:=HA.out.trans (b1.mono HA.out.size);obtain ⟨x0,x1,x2,x3⟩:=cells4 G1.out;have ST:w1.cell? ⟨w.heap.size,0,none⟩=some (.int .i64 mv)/\w1.cell? ⟨w.heap.size,1,none⟩=some (.slice fa fn fc)/\w1.cell? ⟨w.heap.size,2,none⟩=some (.int .i64 mz)/\w1.cell? ⟨w.heap.size,3,none⟩=some (.int .u32 (C:Int))/\Below w.heap.size w w1:=⟨x0,x1,x2,x3,B1⟩;clear b1 x0 x1 x2 x3 B1 G0 HA RR;go_wp2_with fail
 go_region_held3 (fun W=>W.cell? ⟨w.heap.size,0,none⟩=some (.int .i64 mv)/\W.cell? ⟨w.heap.size,1,none⟩=some (.slice fa fn fc)/\W.cell? ⟨w.heap.size,2,none⟩=some (.int .i64 mz)/\W.cell? ⟨w.heap.size,3,none⟩=some (.int .u32 (C:Int))/\Below w.heap.size w W) (first | assumption | exact zeM (by assumption) (Below.refl _ _).drew | exact zeM (by assumption) (by assumption)) (first | (go_at_call 76;refine (zcY _ _ (by omega) (by omega)).mono ?_;rintro e w4 ⟨rfl,b4⟩))
 rename_i qq;have HS4:=zid qq;clear qq ST;go_wp2_with fail
 go_loopw [4,5] (fun s i wr=>∃(k:Nat) (R:List UInt8),k<=fn/\i= .int .i64 k/\s= .string ⟨R.toArray⟩/\R=puts (mv::(fn:Int)::ml.take k)/\R.length<=9*(k+2)/\Hid (wr.cell? ⟨w.heap.size,0,none⟩=some (.int .i64 mv)/\wr.cell? ⟨w.heap.size,1,none⟩=some (.slice fa fn fc)/\wr.cell? ⟨w.heap.size,2,none⟩=some (.int .i64 mz)/\wr.cell? ⟨w.heap.size,3,none⟩=some (.int .u32 (C:Int))/\Below w.heap.size w wr))
  (fun _ i _=>fn-(intOf i).toNat)
 case atStart=>exact ⟨0,puts (mv::(fn:Int)::ml.take 0),Nat.zero_le _,rfl,by rw [HP0.out],rfl,by have:=puts_le (mv::(fn:Int)::ml.take 0);simp at this ⊢;omega,HS4⟩
 case round=>
  obtain ⟨k,R,hk,rfl,rfl,hR,hRl,HS⟩:=hrel;have HR:=zid hR;obtain ⟨x0,x1,x2,x3,hbw⟩:=HS.out;clear hR
  by_cases hlt:k<fn
  · obtain ⟨g,off,rfl,c0⟩:=il_at (HV.out.keep hbw) hlt
    obtain ⟨hf0,hf1⟩:=HL.out k hlt
    have HRS:=zid (show puts (mv::(fn:Int)::ml.take (k+1))=puts (mv::(fn:Int)::ml.take k)++Vp.put (ml.getD k 0).toNat by
     rw [HTK.out k hlt,show (mv::(fn:Int)::(ml.take k++[ml.getD k 0]))=(mv::(fn:Int)::ml.take k)++[ml.getD k 0] from rfl,zaV,zds])
    generalize ml.getD k 0=f at*;have P:=fun W:World=>zcY f W (by omega) (by omega);rw [zcM hf0] at P;replace P:=zid P;have hp9:=zfx f.toNat;generalize Vp.put f.toNat=pf at*
    have s2:¬9223372036854775807<R.length+pf.length:=by omega
    clear hbw;go_wp2_with fail;refine (P.out _).mono ?_;rintro e w5 ⟨rfl,b5⟩;have HS5:=zid (zeM HS.out b5);clear b5 x0 x1 x2 x3;go_wp2_with fail
    go_roundw
    case rel=>exact ⟨k+1,R++pf,by omega,by go_num,congrArg Value.string (ByteArray.mk_append_mk R pf),by rw [HRS.out, <-HR.out],by rw [List.length_append];omega,HS5⟩
    case measure=>simp [intOf];omega
  · obtain rfl:k=fn:=by omega
    have F:=HFR.out _ (HBD.out R HR.out)
    have s2:¬9223372036854775807<R.length+(putI mz).length:=by omega
    have s3:¬9223372036854775807<R.length+(putI mz).length+(zew C).length:=by have:(zew C).length=4:=rfl;omega
    replace F:=zid F;have ST2:wr.cell? ⟨w.heap.size,0,none⟩=some (.int .i64 mv)/\wr.cell? ⟨w.heap.size,1,none⟩=some (.slice fa k fc)/\wr.cell? ⟨w.heap.size,2,none⟩=some (.int .i64 mz)/\wr.cell? ⟨w.heap.size,3,none⟩=some (.int .u32 (C:Int))/\Below w.heap.size w wr:=HS.out;clear hbw;go_wp2_with fail;clear x0 x1 x2 x3
    go_region_held3 (fun W=>W.cell? ⟨w.heap.size,0,none⟩=some (.int .i64 mv)/\W.cell? ⟨w.heap.size,1,none⟩=some (.slice fa k fc)/\W.cell? ⟨w.heap.size,2,none⟩=some (.int .i64 mz)/\W.cell? ⟨w.heap.size,3,none⟩=some (.int .u32 (C:Int))/\Below w.heap.size w W) (first | assumption | exact zeM (by assumption) (Below.refl _ _).drew | exact zeM (by assumption) (by assumption)) (first | (go_at_call 76;refine (zcY mz _ (by omega) (by omega)).mono ?_;rintro e w6 ⟨rfl,b6⟩) | (go_at_call 107;refine (zgp C _ hC2).mono ?_;rintro e w7 ⟨rfl,b7⟩) | (go_at_call 80;refine (F.out _).mono ?_;rintro e w8 ⟨rfl,b8⟩))
    go_wp2_with fail;go_ret2;rename_i qq;exact ⟨rfl,keep4r qq⟩
theorem rput10_any (fa:Option Addr) (fn fc:Nat) (m:Mn) (w:World) (hv:IsL IL w (.slice fa fn fc) m.l) (hB:MnB m):
 Calls Tryz.prog 85 #[mnVal fa fn fc m] w fun e w'=>e= .returned (putVal10 m)/\Below w.heap.size w w':=by
 by_cases h:Ok m
 · exact zeS fa fn fc m w hv h
 · exact zku fa fn fc m w hv hB h
end Mfs
namespace Dsk
open Go.RowKit Dp
theorem zkn (fv:Value) (D:Dk) (n:ByteArray) (w:World) (hv:IsL FL w fv D.f) (hS:Sm D):
 Calls Tryz.prog 46 #[zac fv D,.string n] w (zib w fv D.f (sync D n)):=by
 obtain ⟨fa,fn,fc,rfl⟩:∃a n c,fv= .slice a n c:=by obtain ⟨a,c,h,_⟩:=hv;exact ⟨a,_,c,h⟩
 have F:=fun (W:World) (h:IsL FL W (.slice fa fn fc) D.f)=>zbF (.slice fa fn fc) D n W h;have CH:=zid fun (ga:Option Addr) (gn gc:Nat) (l:List Fl) (own:Int) (W:World)=>zbz fa ga fn fc gn gc D l own W hS.b hS.l0;have WO:=zid fun (g:Fl) (W:World) (h:IsL FL W (.slice fa fn fc) D.f)=>zcK (.slice fa fn fc) D.f g W h hS.r.2.1 hS.n;have HFB:=zid hS.flb;have HFN:=zid hv.len.1;have HV:=zid hv;obtain ⟨g0,g1,gb,gs⟩:=zay w #[.slice fa fn fc,.int .i64 D.c,.bool D.a,.int .i64 D.l,.bool D.x] #[.slice none 0 0,.int .i64 0,.bool false,.int .i64 0,.bool false] 27 27;have G0:=zid g0;have G1:=zid g1;have GB:=zid gb;have GS:=zid gs;clear g0 g1 gb gs hv;unfold sync
 rcases @zb4 D.f n with ⟨hf,hg⟩ | ⟨i,hi,hf,hg⟩
 · rw [hg]
   dsimp only
   simp only [hf] at F;unfold zac at F ⊢;replace F:=zid F;clear hf hg
   go_enter Tryz.func46,Tryz.ntmps46
   go_wp2_with fail;generalize World.alloc (World.alloc w _) _=w0 at G0 G1 GB GS ⊢;refine (F.out w0 (HV.out.keep GB.out)).mono ?_;rintro e w1 ⟨rfl,b1⟩;obtain ⟨p0,p1,p2,p3,p4⟩:=zaa (hkeep G0.out b1);have G1':=zid (hkeep G1.out b1);have B1:=zid (GB.out.trans (b1.mono (by have:=GS.out;omega)))
   have hs1:w.heap.size+1<w1.heap.size:=by have:=b1.size;have:=GS.out;omega
   clear b1;go_wp2_with fail;refine (CH.out none 0 0 [] 7 w1).mono ?_;rintro e w2 ⟨v,rfl,hc2,b2⟩
   obtain ⟨xa,xn,xc,rfl⟩:∃a n c,v= .slice a n c:=by
    rcases hc2 with ⟨h,_⟩ | ⟨h,_⟩
    · exact ⟨_,_,_,h⟩
    · exact ⟨_,_,_,h⟩
   obtain ⟨q0,q1,q2,q3,q4⟩:=zaa (hkeep G1'.out b2);obtain ⟨qf0,qf1,qf2,qf3,qf4⟩:=zad (hkeep G1'.out b2);have HC2:=zid hc2;have B2:=zid (B1.out.trans (b2.mono B1.out.size));clear hc2 b2;unfold zac;go_wp2_with fail;refine bodyPost_ret (v:= .tuple #[.agg #[.slice xa xn xc,.int .i64 (change D [] 7).1.c,.bool (change D [] 7).1.a,.int .i64 (change D [] 7).1.l,.bool (change D [] 7).1.x],.int .i64 (change D [] 7).2]) (by simp [results,Tryz.results46,go_sem,q0,q1,q2,q3,q4]) rfl ?_;refine ⟨xa,xn,xc,rfl,?_,zai B2.out (Nat.le_succ _) _ _ _ _ _⟩
   rcases HC2.out with ⟨h1,h2⟩ | ⟨h1,h2,_⟩
   · exact .inl ⟨h1,h2⟩
   · rw [h1,h2]
     exact .inr (OwnL.nil _ _)
 · obtain ⟨f,hfe⟩:∃f,D.f.getD i zero=f:=⟨_,rfl⟩
   rw [hg]
   dsimp only;simp only [hf] at F
   have hin:i<fn:=by rw [HFN.out];exact hi
   have hfb:FlB f:=by rw [<-hfe,zaD hi];exact HFB.out _ (List.getElem_mem hi)
   have hd:=hfb.2.1
   have hil:fn<=1000000:=by have:=hS.n;have:=HFN.out;omega
   unfold zac at F ⊢;replace F:=zid F;rw [hfe];clear hf hg hi hfb
   go_enter Tryz.func46,Tryz.ntmps46
   go_wp2_with fail;generalize World.alloc (World.alloc w _) _=w0 at G0 G1 GB GS ⊢;refine (F.out w0 (HV.out.keep GB.out)).mono ?_;rintro e w1 ⟨rfl,b1⟩;obtain ⟨p0,p1,p2,p3,p4⟩:=zaa (hkeep G0.out b1);have B1a:=GB.out.trans (b1.mono (by have:=GS.out;omega));obtain ⟨g,off,rfl,c0,c1,c2⟩:=zb3 (HV.out.keep B1a) hin;rw [hfe] at c0 c1 c2
   have hs1:w.heap.size+1<w1.heap.size:=by have:=b1.size;have:=GS.out;omega
   have hgl:=block_lt_of_cell c0;have G0w:=halloc (o:= .cells #[.string f.n,.string f.d,.int .i64 (f.d.size:Int)] 82) (hkeep G0.out b1);have G1w:=halloc (o:= .cells #[.string f.n,.string f.d,.int .i64 (f.d.size:Int)] 82) (hkeep G1.out b1);have GFw:=zid (heap_alloc_new w1 (.cells #[.string f.n,.string f.d,.int .i64 (f.d.size:Int)] 82));have B1w:=B1a.alloc B1a.size (.cells #[.string f.n,.string f.d,.int .i64 (f.d.size:Int)] 82)
   have hsw:(w1.alloc (.cells #[.string f.n,.string f.d,.int .i64 (f.d.size:Int)] 82)).heap.size=w1.heap.size+1:=by simp
   have G0':=zid (hkeep G0w (Below.refl _ _).drew);have G1':=zid (hkeep G1w (Below.refl _ _).drew);have B1:=zid B1w.drew;have WO0:=zid (WO.out ⟨f.n,f.d,(f.d.size:Int)⟩ (w1.alloc (.cells #[.string f.n,.string f.d,.int .i64 (f.d.size:Int)] 82)).drew (HV.out.keep B1.out));clear b1 WO B1a G0w G1w B1w hfe;go_wp2_with fail;generalize w1.alloc _=w3 at G0' G1' GFw B1 WO0 hsw ⊢;obtain ⟨r0,r1,r2⟩:=cells3 GFw.out;obtain ⟨y0,y1,y2,y3,y4⟩:=zaa (show w3.heap[w.heap.size]?=_ from G0'.out)
   replace hs1:w.heap.size+1<w3.heap.size:=by omega
   clear p0 p1 p2 p3 p4 c0 c1 c2
   go_region_with (first | ((with_reducible refine WO0.out.mono ?_);rintro e w4 ⟨lv,rfl,ho4,b4⟩;obtain ⟨ga,gn,gc,rfl⟩:=own_slice ho4;have HO4:=zid ho4;obtain ⟨z0,z1,z2,z3,z4⟩:=zaa (hkeep G0'.out b4);have G14:=zid (hkeep G1'.out b4);have B4:=zid (B1.out.trans (b4.mono B1.out.size));have hs4:=b4.size;clear ho4 b4) | (go_at_call 73;refine (CH.out ga gn gc (withF D.f ⟨f.n,f.d,(f.d.size:Int)⟩) 0 w4).mono ?_;rintro e w2 ⟨v,rfl,hc2,b2⟩;obtain ⟨xa,xn,xc,rfl⟩:∃a n c,v= .slice a n c:=(by rcases hc2 with ⟨h,_⟩ | ⟨h,_⟩<;>exact ⟨_,_,_,h⟩);obtain ⟨q0,q1,q2,q3,q4⟩:=zaa (hkeep G14.out b2);obtain ⟨qf0,qf1,qf2,qf3,qf4⟩:=zad (hkeep G14.out b2);have HC2:=zid hc2;have HO2:=zid (HO4.out.keep b2);have B2:=zid (B4.out.trans (b2.mono B4.out.size));clear hc2 b2;unfold zac))
   all_goals
    go_wp2_with fail
    refine bodyPost_ret (v:= .tuple #[.agg #[.slice xa xn xc,.int .i64 (change D (withF D.f ⟨f.n,f.d,(f.d.size:Int)⟩) 0).1.c,.bool (change D (withF D.f ⟨f.n,f.d,(f.d.size:Int)⟩) 0).1.a,.int .i64 (change D (withF D.f ⟨f.n,f.d,(f.d.size:Int)⟩) 0).1.l,.bool (change D (withF D.f ⟨f.n,f.d,(f.d.size:Int)⟩) 0).1.x],.int .i64 (change D (withF D.f ⟨f.n,f.d,(f.d.size:Int)⟩) 0).2]) (by simp [results,Tryz.results46,go_sem,q0,q1,q2,q3,q4]) rfl ?_;refine ⟨xa,xn,xc,rfl,?_,zai B2.out (Nat.le_succ _) _ _ _ _ _⟩
    rcases HC2.out with ⟨h1,h2⟩ | ⟨h1,h2,_⟩
    · exact .inl ⟨h1,h2⟩
    · refine .inr ?_
      rw [h1,h2]
      exact zbd (zbD HO2.out (k:=w.heap.size+1) hs1 _ _ _ _ _) B1.out.size
end Dsk
end Go.Proofs.YtgmppfpllogdcaaGreat

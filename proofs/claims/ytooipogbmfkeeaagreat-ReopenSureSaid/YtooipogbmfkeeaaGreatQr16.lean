/-
  Parts of what the laws of this seat stand on:FrameCode,FrameNext,VarRref,FrameRef.
-/
import Derived.Deep.DeepCutAuto
import Derived.Deep.RegionHeld3
import Derived.Deep.RegionWith
import Derived.IntWalk
import Derived.Lib.Hide
import Derived.Lib.Strings
import Derived.Outline
import Derived.Test.YtooipogbmfkeeaaGreatProg
import Derived.Test.YtooipogbmfkeeaaGreatQr1
import Derived.Test.YtooipogbmfkeeaaGreatQr14
import Derived.Test.YtooipogbmfkeeaaGreatQr15
import Derived.Test.YtooipogbmfkeeaaGreatQr6
set_option maxRecDepth 100000
set_option maxHeartbeats 6400000
namespace Go.Proofs.YtooipogbmfkeeaaGreat
section
open Go.RowKit
theorem zeE (x:Nat):zeF x=Fr.four x:=rfl
theorem zlj (n:Int) (w:World) (h1:1<=n) (h2:n<=65536):
 Calls Tryz.prog 121 #[.int .i64 n] w fun e w'=>e= .returned (.bool true)/\w=w':=by
 go_enter Tryz.func121,Tryz.ntmps121
 go_wp2_with fail;go_ret;exact ⟨rfl,rfl⟩
theorem may_no (n:Int) (w:World) (h:n<1\/65536<n):
 Calls Tryz.prog 121 #[.int .i64 n] w fun e w'=>e= .returned (.bool false)/\w=w':=by
 by_cases h1:n<1
 · clear h
   go_enter Tryz.func121,Tryz.ntmps121
   go_wp2_with fail;go_ret;exact ⟨rfl,rfl⟩
 · have h2:65536<n:=by omega
   have h3:1<=n:=by omega
   have h4:decide (n<=65536)=false:=by simp;omega
   clear h h1
   go_enter Tryz.func121,Tryz.ntmps121
   go_wp2_with fail;go_ret;exact ⟨rfl,rfl⟩
theorem za6 (n:Int):(putI n).length<=9:=by
 unfold putI
 split
 · simp
 · exact Vp.put_len_le _
theorem zhb (s:ByteArray) (n f:List UInt8):Value.string (⟨n.toArray⟩++⟨f.toArray⟩++s)=Value.string ⟨(n++f++s.data.toList).toArray⟩:=by
 refine congrArg Value.string (ByteArray.ext ?_)
 simp
theorem fput_yes (s:ByteArray) (w:World) (h:Fr.May s.size):
 Calls Tryz.prog 158 #[.string s] w fun e w'=>e= .returned (.tuple #[.string ⟨(Fr.fr s.data.toList).toArray⟩,.int .i64 0])/\Below w.heap.size w w':=by
 have hb:s.size<=65536:=h.2;have hb1:1<=s.size:=h.1;clear h;have C:=zid fun W:World=>zlj (s.size:Int) W (by omega) (by omega);have D:=zid fun W:World=>put_any (s.size:Int) W (by omega) (by omega)
 have e0:putI (s.size:Int)=Vp.put s.data.toList.length:=by rw [show s.data.toList.length=s.size from by simp];unfold putI;rw [if_neg (by omega)];simp
 rw [e0] at D
 have E0:∀W:World,zc3 (W.alloc (.cells #[.string ⟨(Vp.put s.data.toList.length).toArray⟩,.string s] 9)) (.slice (some ⟨W.heap.size,0,none⟩) 2 2) [⟨(Vp.put s.data.toList.length).toArray⟩,s]:=fun W=>
  zc3.lits W [⟨(Vp.put s.data.toList.length).toArray⟩,s] (show 2<=maxLen by decide) (fun x hx=>by
   simp only [List.mem_cons,List.not_mem_nil,or_false] at hx
   rcases hx with rfl | rfl
   · have:=Vp.put_len_le s.data.toList.length;rw [zam];unfold maxLen;omega
   · unfold maxLen;omega)
 have E:=zid fun W:World=>zhB _ _ _ (E0 W)
 have e1:cat [⟨(Vp.put s.data.toList.length).toArray⟩,s]=Vp.put s.data.toList.length++s.data.toList:=by simp [cat]
 rw [e1] at E;have F:=zid fun W:World=>zfZ (Cp.sum 0 (Vp.put s.data.toList.length++s.data.toList)) W (Cp.sum_lt _ _);rw [zeE] at F;unfold Fr.fr;rw [<-zhb];have hpl:=Vp.put_len_le s.data.toList.length;obtain ⟨P,hP⟩:∃P,Vp.put s.data.toList.length=P:=⟨_,rfl⟩;rw [hP] at D E F hpl ⊢;clear hP E0 e0 e1;obtain ⟨X,hX⟩:∃X,Cp.sum 0 (P++s.data.toList)=X:=⟨_,rfl⟩;rw [hX] at E F ⊢;clear hX
 have hfl:(Fr.four X).length<=4:=by rw [Fr.four_len];exact Nat.le_refl _
 generalize Fr.four X=f at F hfl ⊢
 go_enter Tryz.func158,Tryz.ntmps158
 go_wp2_with fail;refine (C.out _).mono ?_;rintro e w' ⟨rfl,rfl⟩;go_wp2_with fail;refine (D.out _).mono ?_;rintro e w1 ⟨rfl,b1⟩;go_wp2_with fail;refine (E.out _).mono ?_;rintro e w2 ⟨rfl,b2⟩;go_wp2_with fail;refine (F.out _).mono ?_;rintro e w3 ⟨rfl,b3⟩;go_wp2_with fail;go_ret2;exact ⟨rfl,zaf (zaf b1 (zat b2)) b3⟩
theorem zlx (s:ByteArray) (w:World) (hs:s.size<=maxLen):
 Calls Tryz.prog 119 #[.string s] w fun e w'=>e= .returned (.bool (Fr.cutB s.data.toList))/\w=w':=by
 unfold maxLen at hs
 by_cases h8:8<s.size
 · have e:Fr.cutB s.data.toList=false:=by
    unfold Fr.cutB;rw [Bool.and_eq_false_iff]
    left
    simpa using h8
   rw [e]
   go_enter Tryz.func119,Tryz.ntmps119
   go_wp2_with fail;go_ret;exact ⟨rfl,rfl⟩
 · have h8':s.size<=8:=by omega
   go_enter Tryz.func119,Tryz.ntmps119
   go_wp2_with fail
   go_loop [9] (fun i=>∃k:Nat,k<=s.size/\i= .int .i64 k/\Fr.highB (s.data.toList.take k)=true) (fun i=>s.size-(intOf i).toNat)
   case atStart=>exact ⟨0,Nat.zero_le _,rfl,rfl⟩
   case round=>
    obtain ⟨k,hk,rfl,hr⟩:=hrel;have HR:=zid hr;clear hr
    by_cases hlt:k<s.size
    · have HN:=zid (Fr.highB_snoc s k hlt)
      by_cases hb:s[k].toNat<128
      · have HZ:=zid (Fr.cutB_low s k hlt hb)
        have hb':((s[k].toNat:Nat):Int)<128:=by omega
        go_wp2_with fail;go_ret;exact ⟨by rw [HZ.out];rfl,rfl⟩
      · have hb':128<=((s[k].toNat:Nat):Int):=by omega
        have HZ:=zid (show 128<=s[k].toNat by omega)
        clear hb;go_wp2_with fail
        go_round
        case rel=>exact ⟨k+1,by omega,by go_num,by rw [HN.out,HR.out];simpa using HZ.out⟩
        case measure=>simp [intOf];omega
    · have HZ:=zid (Fr.cutB_all s h8' (by have:=HR.out;rwa [List.take_of_length_le (by simp;omega)] at this))
      go_wp2_with fail
      go_ret;exact ⟨by rw [HZ.out];rfl,rfl⟩
def zgU (s:ByteArray) (k:Nat):Value:=
 match Fr.nx (s.data.toList.drop k) with
 | (0,j,b)=> .tuple #[.string ⟨b.toArray⟩,.int .i64 ((k+j:Nat):Int),.int .i64 0]
 | (e+1,_,_)=> .tuple #[.string ⟨#[]⟩,.int .i64 0,.int .i64 ((e+1:Nat):Int)]
theorem zaX {s:ByteArray} {k e:Nat} (h:Fr.nx (s.data.toList.drop k)=(e,0,[])) (he:e≠0):zgU s k= .tuple #[.string ⟨#[]⟩,.int .i64 0,.int .i64 (e:Int)]:=by
 unfold zgU;rw [h];obtain ⟨e,rfl⟩:∃e',e=e'+1:=⟨e-1,by omega⟩
 rfl
theorem zbY {s:ByteArray} {k j:Nat} {b:List UInt8} (h:Fr.nx (s.data.toList.drop k)=(0,j,b)):zgU s k= .tuple #[.string ⟨b.toArray⟩,.int .i64 ((k+j:Nat):Int),.int .i64 0]:=by
 unfold zgU;rw [h]
def nxAt (s:ByteArray) (i:Int):Value:=if i<0 then .tuple #[.string ⟨#[]⟩,.int .i64 0,.int .i64 2] else zgU s i.toNat
theorem zb3 {w:World} (n:Nat):Below w.heap.size w (w.drewN n):=by
 induction n generalizing w with
 | zero=>exact Below.refl _ _
 | succ n ih=>exact ih.drew
theorem ziV {s:ByteArray} {i:Int} (h:i<0\/(s.size:Int)<=i):nxAt s i= .tuple #[.string ⟨#[]⟩,.int .i64 0,.int .i64 2]:=by
 unfold nxAt
 split
 · rfl
 · exact zaX (e:=2) (by rw [List.drop_eq_nil_of_le (by show s.size<=i.toNat;omega)];exact Fr.nx_cut rfl) (by omega)
theorem zcC (s:ByteArray) (k:Nat):nxAt s (k:Int)=zgU s k:=by unfold nxAt;rw [if_neg (by omega)];simp
theorem zlL (s:ByteArray) (i:Int) (w:World) (h:i<0\/(s.size:Int)<=i):
 Calls Tryz.prog 89 #[.string s,.int .i64 i] w fun e w'=>e= .returned (.tuple #[.string ⟨#[]⟩,.int .i64 0,.int .i64 2])/\w=w':=by
 by_cases h0:i<0
 · clear h
   go_enter Tryz.func89,Tryz.ntmps89
   go_wp2_with fail;go_ret3;exact ⟨rfl,rfl⟩
 · have h1:(s.size:Int)<=i:=by omega
   clear h
   go_enter Tryz.func89,Tryz.ntmps89
   go_wp2_with fail;go_ret3;exact ⟨rfl,rfl⟩
theorem slice_kq (s:ByteArray) (k q:Nat) (w:World) (h1:k<=q) (h2:q<=s.size):(Instr.slice 9 (.string s) (some (.int .i64 (k:Int))) (some (.int .i64 (q:Int))) none).run Tryz.prog w= .ok (.string (s.extract k q)) w:=by
 have:=run_slice_string (P:=Tryz.prog) w 9 s .i64 .i64 (k:Int) (q:Int) Tryz.underlying9 (by omega) (by omega) (by omega);rw [this]
 congr 3
theorem slice_q4 (s:ByteArray) (q:Nat) (w:World) (h2:q+4<=s.size):(Instr.slice 9 (.string s) (some (.int .i64 (q:Int))) (some (.int .i64 ((q:Int)+4))) none).run Tryz.prog w= .ok (.string (s.extract q (q+4))) w:=by
 have:=run_slice_string (P:=Tryz.prog) w 9 s .i64 .i64 (q:Int) ((q:Int)+4) Tryz.underlying9 (by omega) (by omega) (by omega);rw [this]
 congr 3
theorem fnext_in (s:ByteArray) (k:Nat) (w:World) (hs:s.size<=140737488351232) (hk:k<s.size):
 Calls Tryz.prog 89 #[.string s,.int .i64 k] w fun e w'=>e= .returned (zgU s k)/\Below w.heap.size w w':=by
 have hk0:decide ((k:Int)<0)=false:=by simp
 have hk1:decide ((s.size:Int)<=(k:Int))=false:=by simp;omega
 have C:=zid fun W:World=>zlx (s.extract k s.size) W (by unfold maxLen;rw [ByteArray.size_extract];omega);rw [zb9,List.take_of_length_le (by simp)] at C;have D:=zid fun W:World=>read_any s (k:Int) W (by omega)
 have hL:(s.data.toList.drop k).length=s.size-k:=by rw [List.length_drop];rfl
 have HL:=zid hL;clear hL
 by_cases hc:Fr.cutB (s.data.toList.drop k)=true
 · rw [hc] at C
   have HV:=zid (zaX (Fr.nx_cut hc) (by omega))
   clear hc
   go_enter Tryz.func89,Tryz.ntmps89
   go_wp2_with fail;refine (C.out _).mono ?_;rintro e w' ⟨rfl,rfl⟩;go_wp2_with fail;go_ret3;exact ⟨by rw [HV.out];rfl,Below.refl _ _⟩
 have hc:Fr.cutB (s.data.toList.drop k)=false:=by simpa using hc
 rw [hc] at C
 have e0:rdAt s (k:Int)=zeo (s.data.toList.drop k) k:=by unfold rdAt;rw [if_neg (by omega)];simp
 rw [e0] at D;clear e0
 rcases ht:Vp.take (s.data.toList.drop k) with _ | ⟨m,j⟩
 · rw [zaO k ht] at D
   have HV:=zid (zaX (Fr.nx_none hc ht) (by omega))
   clear hc ht
   go_enter Tryz.func89,Tryz.ntmps89
   go_wp2_with fail;refine (C.out _).mono ?_;rintro e w' ⟨rfl,rfl⟩;go_wp2_with fail;refine (D.out _).mono ?_;rintro e w' ⟨rfl,n,rfl⟩;go_wp2_with fail;go_ret3;exact ⟨by rw [HV.out];rfl,zb3 n⟩
 rw [zbR k ht] at D;obtain ⟨hj0,hj9,hjl,hm63⟩:=Vp.take_some ht;rw [HL.out] at hjl;obtain ⟨q,hq⟩:∃q,k+j=q:=⟨_,rfl⟩
 have hq1:k<=q:=by omega
 have hq2:q<=s.size:=by omega
 rw [show (k:Int)+(j:Int)=(q:Int) from by omega] at D;have HQ:=zid hq;have HT:=zid ht;have HJ:=zid (show j=q-k by omega);clear hq hc ht
 by_cases hm:Fr.May m
 · have F:=zid fun W:World=>zlj (m:Int) W (by have:=hm.1;omega) (by have:=hm.2;omega)
   have hm2:m<=65536:=hm.2
   have HM:=zid hm;clear hm
   by_cases hl:s.size<q+4+m
   · have HV:=zid (zaX (Fr.nx_short HT.out HM.out (by rw [HL.out];have:=HQ.out;omega)) (by omega))
     clear hjl hj0 hj9
     go_enter Tryz.func89,Tryz.ntmps89
     go_wp2_with fail;refine (C.out _).mono ?_;rintro e w' ⟨rfl,rfl⟩;go_wp2_with fail;refine (D.out _).mono ?_;rintro e w' ⟨rfl,n,rfl⟩;go_wp2_with fail;refine (F.out _).mono ?_;rintro e w' ⟨rfl,rfl⟩;go_wp2_with fail;go_ret3;exact ⟨by rw [HV.out];rfl,zb3 n⟩
   · have hl':q+4+m<=s.size:=by omega
     have HNL:Hid (¬(s.data.toList.drop k).length<j+4+m):=zid (by rw [HL.out];have:=HQ.out;omega)
     clear hl hjl hj0 hj9
     go_enter Tryz.func89,Tryz.ntmps89
     go_wp2_with fail;refine (C.out _).mono ?_;rintro e w' ⟨rfl,rfl⟩;go_wp2_with fail;refine (D.out _).mono ?_;rintro e w' ⟨rfl,n,rfl⟩;go_wp2_with fail;refine (F.out _).mono ?_;rintro e w' ⟨rfl,rfl⟩;go_wp2_with fail;obtain ⟨B,hB⟩:∃B,s.extract (q+4) (q+4+m)=B:=⟨_,rfl⟩
     have hBs:B.size<=maxLen:=by rw [<-hB,ByteArray.size_extract];unfold maxLen;omega
     have hAs:(s.extract k q).size<=maxLen:=by rw [ByteArray.size_extract];unfold maxLen;omega
     rw [hB];have HB:=zid hB;clear hB
     have E0:∀W:World,zc3 (W.alloc (.cells #[.string (s.extract k q),.string B] 9)) (.slice (some ⟨W.heap.size,0,none⟩) 2 2) [s.extract k q,B]:=fun W=>
      zc3.lits W [s.extract k q,B] (show 2<=maxLen by decide) (fun x hx=>by
       simp only [List.mem_cons,List.not_mem_nil,or_false] at hx
       rcases hx with rfl | rfl
       · exact hAs
       · exact hBs)
     have E:=zid fun W:World=>zhB _ _ _ (E0 W);clear E0 hAs hBs;have hX:=Cp.sum_lt 0 (cat [s.extract k q,B]);obtain ⟨X,hXe⟩:∃X,Cp.sum 0 (cat [s.extract k q,B])=X:=⟨_,rfl⟩;rw [hXe] at E hX;have HX:=zid hXe;clear hXe;have G:=zid fun W:World=>zfZ X W hX;rw [zeE] at G;clear hX;have hs1:=fun W:World=>slice_kq s k q W hq1 hq2;have hs2:=fun W:World=>slice_q4 s q W (by omega)
     have i1:(k:Int)<=(q:Int):=by omega
     have i2:(q:Int)<=(s.size:Int):=by omega
     have i3:(q:Int)<=(q:Int)+4:=by omega
     have i4:(q:Int)+4<=(s.size:Int):=by omega
     have i5:0<=(q:Int)+4:=by omega
     go_cut [66] (fun v w2=>∃c:Bool,v= .bool c/\(c=false↔Fr.four X=(s.extract q (q+4)).data.toList)/\Below w.heap.size w w2)
     case first=>
      go_region_with (first | (go_at_call 93;refine (E.out _).mono ?_;rintro e w4 ⟨rfl,b4⟩) | (go_at_call 122;refine (G.out _).mono ?_;rintro e w5 ⟨rfl,b5⟩))
      go_wp2_with fail;go_meet
      case rel=>
       refine ⟨_,rfl,?_,zaf (zb3 n).drew (zaf (zat b4) b5)⟩;rw [Lib.toList_data]
       simp
     case rest=>
      obtain ⟨c,rfl,hc,hb⟩:=hcut
      have e1:(s.extract q (q+4)).data.toList=((s.data.toList.drop k).drop j).take 4:=by
       rw [zb9,List.drop_drop,HQ.out,show q+4-q=4 from by omega]
      have e2:B.data.toList=((s.data.toList.drop k).drop (j+4)).take m:=by
       rw [<-HB.out,zb9,List.drop_drop,show k+(j+4)=q+4 from by have:=HQ.out;omega,show q+4+m-(q+4)=m from by omega]
      have e3:(s.extract k q).data.toList=(s.data.toList.drop k).take j:=by
       rw [zb9,HJ.out]
      have e4:X=Cp.sum 0 ((s.data.toList.drop k).take j++((s.data.toList.drop k).drop (j+4)).take m):=by
       rw [<-HX.out, <-e2, <-e3];simp [cat]
      rw [e1,e4] at hc
      cases c with
      | false=>
       have HV:=zbY (Fr.nx_ok HT.out HM.out HNL.out (hc.1 rfl));rw [<-e2,show k+(j+4+m)=q+4+m from by have:=HQ.out;omega] at HV;have HV:=zid HV;clear hc e1 e2 e3 e4;go_wp2_with fail;go_ret3;refine ⟨?_,hb⟩;rw [HV.out]
       rfl
      | true=>
       have hne:Fr.four (Cp.sum 0 ((s.data.toList.drop k).take j++((s.data.toList.drop k).drop (j+4)).take m))≠((s.data.toList.drop k).drop j).take 4:=by
        intro hh;have:=hc.2 hh
        cases this
       have HV:=zid (zaX (Fr.nx_sum HT.out HM.out HNL.out hne) (by omega));clear hc e1 e2 e3 e4 hne;go_wp2_with fail;go_ret3;refine ⟨?_,hb⟩;rw [HV.out]
       rfl
 · have F:=zid fun W:World=>may_no (m:Int) W (by unfold Fr.May at hm;omega)
   have HV:=zid (zaX (Fr.nx_form HT.out hm) (by omega))
   clear hm hjl hj0 hj9
   go_enter Tryz.func89,Tryz.ntmps89
   go_wp2_with fail;refine (C.out _).mono ?_;rintro e w' ⟨rfl,rfl⟩;go_wp2_with fail;refine (D.out _).mono ?_;rintro e w' ⟨rfl,n,rfl⟩;go_wp2_with fail;refine (F.out _).mono ?_;rintro e w' ⟨rfl,rfl⟩;go_wp2_with fail;go_ret3;exact ⟨by rw [HV.out];rfl,zb3 n⟩
theorem zeG (s:ByteArray) (i:Int) (w:World) (hs:s.size<=140737488351232):
 Calls Tryz.prog 89 #[.string s,.int .i64 i] w fun e w'=>e= .returned (nxAt s i)/\Below w.heap.size w w':=by
 by_cases h:i<0\/(s.size:Int)<=i
 · rw [ziV h]
   exact (zlL s i w h).mono fun _ _ ⟨he,hw⟩=>⟨he,by rw [<-hw];exact Below.refl _ _⟩
 · obtain ⟨k,rfl⟩:∃k:Nat,i=(k:Int):=⟨i.toNat,by omega⟩
   rw [zcC]
   exact fnext_in s k w hs (by omega)
theorem zjN:∀(k i n:Nat),n<128^(i+1)->(Vp.putF k n).length<=i+1:=by
 intro k
 induction k with
 | zero=>intro i n _;simp [Vp.putF]
 | succ k ih=>
  intro i n h;rw [Vp.putF]
  by_cases hn:n<128
  · rw [if_pos hn];simp
  · rw [if_neg hn]
    cases i with
    | zero=>simp at h;omega
    | succ i=>
     have:=ih i (n/128) (by rw [Nat.pow_succ] at h;omega)
     simpa using this
theorem zaY.same {l:List UInt8} {i n:Nat} {b:UInt8} (h:zaY l i n) (h9:i<9) (hb:l[i]?=some b) (h128:b.toNat<128):
 (Vp.put (n+b.toNat*128^i)=l.take (i+1))↔ ¬(b.toNat=0/\0<i):=by
 constructor
 · rintro he ⟨h0,hi⟩
   obtain ⟨j,rfl⟩:∃j,i=j+1:=⟨i-1,by omega⟩
   have hlen:=congrArg List.length he;have hlt:=(List.getElem?_eq_some_iff.1 hb).1;rw [List.length_take,h0] at hlen;have:=zjN 9 j n h.1
   have e:n+0*128^(j+1)=n:=by omega
   rw [e] at hlen;unfold Vp.put at hlen;omega
 · intro h0
   exact Vp.put_take (h.done h9 hb h128 h0)
theorem zkK (s:ByteArray) (i:Int) (w:World) (h:i<0\/(s.size:Int)<=i):
 Calls Tryz.prog 60 #[.string s,.int .i64 i] w fun e w'=>e= .returned (.tuple #[.int .i64 0,.int .i64 0,.bool false])/\w=w':=by
 by_cases h0:i<0
 · go_enter Tryz.func60,Tryz.ntmps60
   go_wp2
   go_ret3;exact ⟨rfl,rfl⟩
 · have h1:(s.size:Int)<=i:=by omega
   clear h
   go_enter Tryz.func60,Tryz.ntmps60
   go_wp2
   go_ret3;exact ⟨rfl,rfl⟩
theorem zkL {n p x:Nat} (hn:n<p) (hp:p<=72057594037927936) (_hx:x<256):wrap64 ((n:Int)+wrap64 ((x:Int)%128*(p:Int)))=((n+x%128*p:Nat):Int):=by
 have h2:x%128*p<=127*p:=Nat.mul_le_mul_right _ (by omega)
 have e:(x:Int)%128*(p:Int)=((x%128*p:Nat):Int):=by simp
 rw [e];generalize x%128*p=y at*;rw [IntWalk.wrap64_in (y:Int) ⟨by omega,by omega⟩,IntWalk.wrap64_in _ ⟨by omega,by omega⟩];omega
theorem mul_128 {i p:Nat} (h8:i<8) (hp:128^i=p):wrap64 ((p:Int)*128)=((128^(i+1):Nat):Int):=by
 have h1:128^i<=128^7:=Nat.pow_le_pow_right (by omega) (by omega)
 have h2:p<=562949953421312:=by rw [<-hp];exact h1
 rw [IntWalk.wrap64_in _ ⟨by omega,by omega⟩,Nat.pow_succ,hp];omega
theorem zgf {w w':World} (h:Below w.drew.heap.size w.drew w'):Below w.heap.size w w':=⟨h.os,h.tape,h.output,h.size,h.block⟩
theorem putI_nat (n:Nat):putI (n:Int)=Vp.put n:=by
 unfold putI;rw [if_neg (by omega)];simp
theorem zd5 (n:Nat) (w:World) (h:n<=9223372036854775807):
 Calls Tryz.prog 102 #[.int .i64 n] w fun e w'=>e= .returned (.string ⟨(Vp.put n).toArray⟩)/\Below w.heap.size w w':=by
 rw [<-putI_nat];exact zda n w (by omega) (by omega)
theorem slice_at (s:ByteArray) (k i:Nat) (h:k+i<s.size):∀w:World,(Instr.slice 9 (.string s) (some (.int .i64 (k:Int))) (some (.int .i64 ((k:Int)+(i:Int)+1))) none).run Tryz.prog w= .ok (.string (s.extract k (k+i+1))) w:=by
 intro w;have:=run_slice_string (P:=Tryz.prog) w 9 s .i64 .i64 (k:Int) ((k:Int)+(i:Int)+1) Tryz.underlying9 (by omega) (by omega) (by omega);rw [this]
 congr 3
theorem rread_in (s:ByteArray) (k:Nat) (w:World) (hs:s.size<=9223372036854775807) (h:k<s.size):
 Calls Tryz.prog 60 #[.string s,.int .i64 k] w fun e w'=>e= .returned (zeo (s.data.toList.drop k) k)/\Below w.heap.size w w':=by
 have hL:(s.data.toList.drop k).length=s.size-k:=by rw [List.length_drop];rfl
 have HL:=zid hL;clear hL
 have hd1:decide (s.size<=k)=false:=by simpa using h
 have hd2:decide ((k:Int)<0)=false:=by simp
 have hd3:decide ((s.size:Int)<=(k:Int))=false:=by simp;omega
 go_enter Tryz.func60,Tryz.ntmps60
 go_wp2
 go_loopw [7,8,9] (fun a u b wr=>∃i n:Nat,i<=9/\i<=s.size-k/\a= .int .i64 n/\(i<9->u= .int .i64 ((128^i:Nat):Int))/\b= .int .i64 i/\zaY (s.data.toList.drop k) i n/\wr=w) (fun _ _ b _=>9-(intOf b).toNat)
 case atStart=>exact ⟨0,0,by omega,by omega,rfl,fun _=>rfl,rfl,zaY.start _,rfl⟩
 case round=>
  obtain ⟨i,n,hi9,hil,rfl,hu,rfl,hr,rfl⟩:=hrel
  by_cases hlt:i<s.size-k
  · by_cases h9:i<9
    · obtain rfl:=hu h9
      clear hu
      have hki:k+i<s.size:=by omega
      have hb:(s.data.toList.drop k)[i]?=some s[k+i]:=by
       rw [List.getElem?_drop,Array.getElem?_toList,Array.getElem?_eq_getElem (by exact hki)]
       rfl
      have HB:=zid hb
      have h256:((s[k+i].toNat:Nat):Int)<256:=by have:=s[k+i].toNat_lt;omega
      have hp1:(128^i:Nat)<=128^8:=Nat.pow_le_pow_right (by omega) (by omega);have hn1:=hr.1;obtain ⟨p,hp⟩:∃p,128^i=p:=⟨_,rfl⟩;rw [hp] at hp1 hn1;have hp2:p<=72057594037927936:=hp1;clear hp1;have HP:=zid hp;rw [hp];clear hp hb;have hnum:=zkL hn1 hp2 s[k+i].toNat_lt;obtain ⟨N,hN⟩:∃N:Nat,N=n+s[k+i].toNat%128*p:=⟨_,rfl⟩;rw [<-hN] at hnum;have HN:=zid hN
      have hNb:N<=9223372036854775807:=by
       have:s[k+i].toNat%128*p<=127*p:=Nat.mul_le_mul_right _ (by omega);omega
      clear hN;have HX:=zid hnum;clear hnum
      by_cases hlo:s[k+i].toNat<128
      · have hlo':((s[k+i].toNat:Nat):Int)<128:=by omega
        go_wp2_with fail
        rw [HX.out];have hsl:=slice_at s k i hki;have hw1:IntKind.i64.wrap ((k:Int)+(i:Int))=(k:Int)+(i:Int):=IntWalk.i64_in _ ⟨by omega,by omega⟩;have hw2:IntKind.i64.wrap ((k:Int)+(i:Int)+1)=(k:Int)+(i:Int)+1:=IntWalk.i64_in _ ⟨by omega,by omega⟩
        have hb1:(k:Int)<=(k:Int)+(i:Int)+1:=by omega
        have hb2:(k:Int)+(i:Int)+1<=(s.size:Int):=by omega
        have hb3:0<=(k:Int)+(i:Int)+1:=by omega
        go_cut [54] (fun v w2=>∃c:Bool,v= .bool c/\(c=false↔Vp.put N=(s.data.toList.drop k).take (i+1))/\Below wr.heap.size wr w2)
        case first=>
         go_region_with (go_at_call 102;refine (zd5 _ _ hNb).mono ?_;rintro e w' ⟨rfl,hb⟩)
         go_wp2_with fail;go_meet
         case rel=>
          refine ⟨_,rfl,?_,zgf hb⟩;rw [Lib.toList_data,Lib.extract_data,show k+i+1-k=i+1 from by omega]
          simp
        case rest=>
         obtain ⟨c,rfl,hc,hb⟩:=hcut
         have hN:N=n+s[k+i].toNat*p:=by rw [HN.out,Nat.mod_eq_of_lt hlo]
         have hsame:=(hr.same h9 HB.out hlo);rw [HP.out, <-hN] at hsame;have hdone:=hr.done h9 HB.out hlo;rw [HP.out, <-hN] at hdone;clear hN
         cases c with
         | false=>
          have HV:=zid (zbR k (hdone (hsame.1 (hc.1 rfl))));clear hsame hdone hc;go_wp2_with fail;go_ret3;refine ⟨?_,hb⟩;rw [HV.out];refine congrArg Ending.returned ?_;show Value.tuple #[.int .i64 (N:Int),.int .i64 ((k:Int)+(i:Int)+1),.bool true]=_;rw [show (k:Int)+(i:Int)+1=(k:Int)+((i+1:Nat):Int) from by omega]
         | true=>
          have hz:s[k+i].toNat=0/\0<i:=by
           rcases Classical.em (s[k+i].toNat=0/\0<i) with h | h
           · exact h
           · have:=hc.2 (hsame.2 h)
             cases this
          have HV:=zid (zaO k (hr.zero h9 HB.out hz.1 hz.2));clear hsame hdone hc hz;go_wp2_with fail;go_ret3;refine ⟨?_,hb⟩;rw [HV.out]
          rfl
      · have hlo':128<=((s[k+i].toNat:Nat):Int):=by omega
        have hstep:=hr.step h9 HB.out (by omega)
        have e:=HN.out;rw [<-HP.out] at e;rw [<-e] at hstep;clear e;have HT:=zid hstep;clear hstep
        by_cases h8:i<8
        · go_wp2_with fail
          rw [HX.out]
          go_roundw
          case rel=>exact ⟨i+1,N,by omega,by omega,rfl,fun _=>congrArg (Value.int .i64) (mul_128 h8 HP.out),by go_num,HT.out,by trivial⟩
          case measure=>simp [intOf];omega
        · go_wp2_with fail
          rw [HX.out]
          go_roundw
          case rel=>exact ⟨i+1,N,by omega,by omega,rfl,fun h=>absurd h (by omega),by go_num,HT.out,by trivial⟩
          case measure=>simp [intOf];omega
    · clear hu
      go_wp2_with fail
      go_ret3;exact ⟨by rw [zaO k (hr.stop (.inl (by omega)))];rfl,Below.refl _ _⟩
  · clear hu
    by_cases h9:i<9
    all_goals
     go_wp2_with fail
     go_ret3;exact ⟨by rw [zaO k (hr.stop (.inr (by rw [HL.out];omega)))];rfl,Below.refl _ _⟩
theorem rread_any (s:ByteArray) (i:Int) (w:World) (hs:s.size<=9223372036854775807):
 Calls Tryz.prog 60 #[.string s,.int .i64 i] w fun e w'=>e= .returned (rdAt s i)/\Below w.heap.size w w':=by
 by_cases h:i<0\/(s.size:Int)<=i
 · rw [ziO h]
   exact (zkK s i w h).mono fun _ _ ⟨he,hw⟩=>⟨he,by rw [<-hw];exact Below.refl _ _⟩
 · obtain ⟨k,rfl⟩:∃k:Nat,i=(k:Int):=⟨i.toNat,by omega⟩
   have e:rdAt s (k:Int)=zeo (s.data.toList.drop k) k:=by unfold rdAt;rw [if_neg (by omega)];simp
   rw [e];exact rread_in s k w hs (by omega)
theorem rof_any (s:ByteArray) (w:World) (hs:s.size<=maxLen):
 Calls Tryz.prog 30 #[.string s] w fun e w'=>e= .returned (.int .u32 (Cp.sum 0 s.data.toList:Nat))/\w=w':=by
 have C:=zid fun W:World=>zhV 0 s W (by omega) hs;generalize Cp.sum 0 s.data.toList=X at C ⊢
 go_enter Tryz.func30,Tryz.ntmps30
 go_wp2_with fail;refine (C.out _).mono ?_;rintro e w' ⟨rfl,rfl⟩;go_wp2_with fail;go_ret;exact ⟨rfl,rfl⟩
theorem zem (s:ByteArray) (w:World) (h:Fr.May s.size):
 Calls Tryz.prog 78 #[.string s] w fun e w'=>e= .returned (.tuple #[.string ⟨(Fr.fr s.data.toList).toArray⟩,.int .i64 0])/\Below w.heap.size w w':=by
 have hb:(s.size:Int)<=65536:=by have:=h.2;omega
 have hb1:1<=(s.size:Int):=by have:=h.1;omega
 have D:=zid fun W:World=>zda (s.size:Int) W (by omega) (by omega)
 have e0:putI (s.size:Int)=Vp.put s.data.toList.length:=by rw [show s.data.toList.length=s.size from by simp];unfold putI;rw [if_neg (by omega)];simp
 rw [e0] at D;have hpl:=Vp.put_len_le s.data.toList.length;have E:=zid fun W:World=>rof_any (⟨(Vp.put s.data.toList.length).toArray⟩++s) W (by rw [ByteArray.size_append,zam];unfold maxLen;omega)
 have e1:(⟨(Vp.put s.data.toList.length).toArray⟩++s:ByteArray).data.toList=Vp.put s.data.toList.length++s.data.toList:=by simp
 rw [e1] at E;have F:=zid fun W:World=>zgK (Cp.sum 0 (Vp.put s.data.toList.length++s.data.toList)) W (Cp.sum_lt _ _);rw [zeE] at F;unfold Fr.fr;rw [<-zhb];obtain ⟨P,hP⟩:∃P,Vp.put s.data.toList.length=P:=⟨_,rfl⟩;rw [hP] at D E F hpl ⊢;clear hP e0 e1 h;obtain ⟨X,hX⟩:∃X,Cp.sum 0 (P++s.data.toList)=X:=⟨_,rfl⟩;rw [hX] at E F ⊢;clear hX
 have hfl:(Fr.four X).length<=4:=by rw [Fr.four_len];exact Nat.le_refl _
 generalize Fr.four X=f at F hfl ⊢
 go_enter Tryz.func78,Tryz.ntmps78
 go_wp2_with fail;refine (D.out _).mono ?_;rintro e w1 ⟨rfl,b1⟩;go_wp2_with fail;refine (E.out _).mono ?_;rintro e w2 ⟨rfl,rfl⟩;go_wp2_with fail;refine (F.out _).mono ?_;rintro e w3 ⟨rfl,b3⟩;go_wp2_with fail;go_ret2;exact ⟨rfl,zaf b1 b3⟩
theorem zlB (l:List UInt8) (i:Nat) (h:i<l.length):Fr.highB (l.take (i+1))=(Fr.highB (l.take i)&&decide (128<=l[i].toNat)):=by
 rw [List.take_succ_eq_append_getElem h];unfold Fr.highB;rw [List.all_append]
 simp
theorem cut_low (l:List UInt8) (i:Nat) (h:i<l.length) (hb:l[i].toNat<128):Fr.cutB l=false:=by
 unfold Fr.cutB;rw [Bool.and_eq_false_iff]
 right
 rw [List.all_eq_false];exact ⟨l[i],List.getElem_mem _,by simpa using hb⟩
theorem cut_high (l:List UInt8) (h:Fr.highB l=true):Fr.cutB l=decide (l.length<=8):=by
 unfold Fr.cutB;unfold Fr.highB at h;rw [h,Bool.and_true]
theorem drop_get (s:ByteArray) (k i q:Nat) (hq:k+i=q) (h:q<s.size):((s.data.toList.drop k)[i]'(by rw [List.length_drop];show i<s.size-k;omega))=s[q]:=by
 subst hq;rw [List.getElem_drop];rfl
theorem zkU (s:ByteArray) (k:Nat) (w:World) (hs:s.size<=maxLen) (hk:k<=s.size):
 Calls Tryz.prog 101 #[.string s,.int .i64 k] w fun e w'=>e= .returned (.bool (Fr.cutB (s.data.toList.drop k)))/\w=w':=by
 unfold maxLen at hs
 have hL:(s.data.toList.drop k).length=s.size-k:=by rw [List.length_drop];rfl
 have HL:=zid hL;clear hL
 go_enter Tryz.func101,Tryz.ntmps101
 go_wp2_with fail
 go_loop [5] (fun x=>∃i:Nat,k+i<=s.size/\x= .int .i64 ((k+i:Nat):Int)/\Fr.highB ((s.data.toList.drop k).take i)=true) (fun x=>s.size-(intOf x).toNat)
 case atStart=>exact ⟨0,hk,rfl,rfl⟩
 case round=>
  obtain ⟨i,hi,rfl,hr⟩:=hrel;have HR:=zid hr;clear hr;obtain ⟨q,hq⟩:∃q,k+i=q:=⟨_,rfl⟩;have HQ:=zid hq;rw [hq] at hi ⊢
  by_cases hlt:q<s.size
  · have hg:=drop_get s k i q hq hlt
    have hsn:=zlB (s.data.toList.drop k) i (by rw [HL.out];omega)
    have hlo:=cut_low (s.data.toList.drop k) i (by rw [HL.out];omega);rw [hg] at hsn hlo;have HN:=zid hsn;clear hsn hg hq
    by_cases hb:s[q].toNat<128
    · have HZ:=zid (hlo hb)
      have hb':((s[q].toNat:Nat):Int)<128:=by omega
      clear hlo;go_wp2_with fail;go_ret;exact ⟨by rw [HZ.out];rfl,rfl⟩
    · have hb':128<=((s[q].toNat:Nat):Int):=by omega
      have HZ:=zid (show 128<=s[q].toNat by omega)
      clear hb hlo;go_wp2_with fail
      go_round
      case rel=>exact ⟨i+1,by have:=HQ.out;omega,by have:=HQ.out;rw [<-this];go_num,by rw [HN.out,HR.out];simpa using HZ.out⟩
      case measure=>simp [intOf];omega
  · have HZ:=zid (cut_high (s.data.toList.drop k) (by have:=HR.out;rwa [List.take_of_length_le (by rw [HL.out];omega)] at this))
    clear hq
    go_wp2_with fail;go_ret;refine ⟨?_,rfl⟩;rw [HZ.out,HL.out];refine congrArg (fun b=>Ending.returned (.bool b)) ?_;show decide (_:Prop)=_;rw [decide_eq_decide];omega
theorem zjI (s:ByteArray) (i:Int) (w:World) (h:i<0\/(s.size:Int)<=i):
 Calls Tryz.prog 59 #[.string s,.int .i64 i] w fun e w'=>e= .returned (.tuple #[.string ⟨#[]⟩,.int .i64 0,.int .i64 2])/\w=w':=by
 by_cases h0:i<0
 · clear h
   go_enter Tryz.func59,Tryz.ntmps59
   go_wp2_with fail;go_ret3;exact ⟨rfl,rfl⟩
 · have h1:(s.size:Int)<=i:=by omega
   clear h
   go_enter Tryz.func59,Tryz.ntmps59
   go_wp2_with fail;go_ret3;exact ⟨rfl,rfl⟩
end
end Go.Proofs.YtooipogbmfkeeaaGreat

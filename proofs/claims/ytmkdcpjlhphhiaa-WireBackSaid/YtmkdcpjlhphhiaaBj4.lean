/-
  Parts of what the laws of this seat stand on:FrameCode,FrameNext,RecVal,RecPut,RecOpen.
-/
import Derived.BigQuiet
import Derived.ChangeArms
import Derived.Deep.DeepCutAuto
import Derived.Deep.QuietTactic
import Derived.Deep.RegionHeld3
import Derived.Deep.RegionWith
import Derived.Deep.Slices
import Derived.Deep.Strs
import Derived.IntWalk
import Derived.Lib.Hide
import Derived.Lib.SmallJoins
import Derived.Lib.Strings
import Derived.Outline
import Derived.Test.YtmkdcpjlhphhiaaBj1
import Derived.Test.YtmkdcpjlhphhiaaBj2
import Derived.Test.YtmkdcpjlhphhiaaBj3
import Derived.Test.YtmkdcpjlhphhiaaProg
set_option maxRecDepth 100000
set_option maxHeartbeats 6400000
namespace Go.Proofs.Ytmkdcpjlhphhiaa
section
open Go.RowKit
theorem zbo (x:Nat):zbT x=Fr.four x:=rfl
theorem zfz (n:Int) (w:World) (h1:1<=n) (h2:n<=65536):
 Calls Try.prog 36 #[.int .i64 n] w fun e w'=>e= .returned (.bool true)/\w=w':=by
 go_enter Try.func36,Try.ntmps36
 go_wp2_with fail;go_ret;exact ⟨rfl,rfl⟩
theorem may_no (n:Int) (w:World) (h:n<1\/65536<n):
 Calls Try.prog 36 #[.int .i64 n] w fun e w'=>e= .returned (.bool false)/\w=w':=by
 by_cases h1:n<1
 · clear h
   go_enter Try.func36,Try.ntmps36
   go_wp2_with fail;go_ret;exact ⟨rfl,rfl⟩
 · have h2:65536<n:=by omega
   have h3:1<=n:=by omega
   have h4:decide (n<=65536)=false:=by simp;omega
   clear h h1
   go_enter Try.func36,Try.ntmps36
   go_wp2_with fail;go_ret;exact ⟨rfl,rfl⟩
theorem zdD (s:ByteArray) (n f:List UInt8):Value.string (⟨n.toArray⟩++⟨f.toArray⟩++s)=Value.string ⟨(n++f++s.data.toList).toArray⟩:=by
 refine congrArg Value.string (ByteArray.ext ?_)
 simp
theorem fput_yes (s:ByteArray) (w:World) (h:Fr.May s.size):
 Calls Try.prog 19 #[.string s] w fun e w'=>e= .returned (.tuple #[.string ⟨(Fr.fr s.data.toList).toArray⟩,.int .i64 0])/\Below w.heap.size w w':=by
 have hb:s.size<=65536:=h.2;have hb1:1<=s.size:=h.1;clear h;have C:=zid fun W:World=>zfz (s.size:Int) W (by omega) (by omega);have D:=zid fun W:World=>zfp (s.size:Int) W (by omega) (by omega)
 have e0:putI (s.size:Int)=Vp.put s.data.toList.length:=by rw [show s.data.toList.length=s.size from by simp];unfold putI;rw [if_neg (by omega)];simp
 rw [e0] at D
 have E0:∀W:World,zb0 (W.alloc (.cells #[.string ⟨(Vp.put s.data.toList.length).toArray⟩,.string s] 9)) (.slice (some ⟨W.heap.size,0,none⟩) 2 2) [⟨(Vp.put s.data.toList.length).toArray⟩,s]:=fun W=>
  zb0.lits W [⟨(Vp.put s.data.toList.length).toArray⟩,s] (show 2<=maxLen by decide) (fun x hx=>by
   simp only [List.mem_cons,List.not_mem_nil,or_false] at hx
   rcases hx with rfl | rfl
   · have:=Vp.put_len_le s.data.toList.length;rw [zai];unfold maxLen;omega
   · unfold maxLen;omega)
 have E:=zid fun W:World=>zfd _ _ _ (E0 W)
 have e1:cat [⟨(Vp.put s.data.toList.length).toArray⟩,s]=Vp.put s.data.toList.length++s.data.toList:=by simp [cat]
 rw [e1] at E;have F:=zid fun W:World=>zc5 (Cp.sum 0 (Vp.put s.data.toList.length++s.data.toList)) W (Cp.sum_lt _ _);rw [zbo] at F;unfold Fr.fr;rw [<-zdD];have hpl:=Vp.put_len_le s.data.toList.length;obtain ⟨P,hP⟩:∃P,Vp.put s.data.toList.length=P:=⟨_,rfl⟩;rw [hP] at D E F hpl ⊢;clear hP E0 e0 e1;obtain ⟨X,hX⟩:∃X,Cp.sum 0 (P++s.data.toList)=X:=⟨_,rfl⟩;rw [hX] at E F ⊢;clear hX
 have hfl:(Fr.four X).length<=4:=by rw [Fr.four_len];exact Nat.le_refl _
 generalize Fr.four X=f at F hfl ⊢
 go_enter Try.func19,Try.ntmps19
 go_wp2_with fail;refine (C.out _).mono ?_;rintro e w' ⟨rfl,rfl⟩;go_wp2_with fail;refine (D.out _).mono ?_;rintro e w1 ⟨rfl,b1⟩;go_wp2_with fail;refine (E.out _).mono ?_;rintro e w2 ⟨rfl,b2⟩;go_wp2_with fail;refine (F.out _).mono ?_;rintro e w3 ⟨rfl,b3⟩;go_wp2_with fail;go_ret2;exact ⟨rfl,zaM (zaM b1 (zaq b2)) b3⟩
theorem zfC (s:ByteArray) (w:World) (hs:s.size<=maxLen):
 Calls Try.prog 43 #[.string s] w fun e w'=>e= .returned (.bool (Fr.cutB s.data.toList))/\w=w':=by
 unfold maxLen at hs
 by_cases h8:8<s.size
 · have e:Fr.cutB s.data.toList=false:=by
    unfold Fr.cutB;rw [Bool.and_eq_false_iff]
    left
    simpa using h8
   rw [e]
   go_enter Try.func43,Try.ntmps43
   go_wp2_with fail;go_ret;exact ⟨rfl,rfl⟩
 · have h8':s.size<=8:=by omega
   go_enter Try.func43,Try.ntmps43
   go_wp2_with fail
   go_loop [9] (fun i=>∃k:Nat,k<=s.size/\i= .int .i64 k/\Fr.highB (s.data.toList.take k)=true) (fun i=>s.size-(intOf i).toNat)
   case atStart=>exact ⟨0,Nat.zero_le _,rfl,rfl⟩
   case round=>
    obtain ⟨k,hk,rfl,hr⟩:=hrel;have HR:=zid hr;clear hr
    by_cases hlt:k<s.size
    · have HN:=zid (Fr.highB_snoc s k hlt)
      by_cases hb:s[k].toNat<128
      · have HZ:=zid (Fr.cutB_low s k hlt hb)
        have hb':((s[k].toNat:Nat):Int)<128:=by omega
        go_wp2_with fail;go_ret;exact ⟨by rw [HZ.out];rfl,rfl⟩
      · have hb':128<=((s[k].toNat:Nat):Int):=by omega
        have HZ:=zid (show 128<=s[k].toNat by omega)
        clear hb;go_wp2_with fail
        go_round
        case rel=>exact ⟨k+1,by omega,by go_num,by rw [HN.out,HR.out];simpa using HZ.out⟩
        case measure=>simp [intOf];omega
    · have HZ:=zid (Fr.cutB_all s h8' (by have:=HR.out;rwa [List.take_of_length_le (by simp;omega)] at this))
      go_wp2_with fail
      go_ret;exact ⟨by rw [HZ.out];rfl,rfl⟩
def zdw (s:ByteArray) (k:Nat):Value:=
 match Fr.nx (s.data.toList.drop k) with
 | (0,j,b)=> .tuple #[.string ⟨b.toArray⟩,.int .i64 ((k+j:Nat):Int),.int .i64 0]
 | (e+1,_,_)=> .tuple #[.string ⟨#[]⟩,.int .i64 0,.int .i64 ((e+1:Nat):Int)]
theorem zaD {s:ByteArray} {k e:Nat} (h:Fr.nx (s.data.toList.drop k)=(e,0,[])) (he:e≠0):zdw s k= .tuple #[.string ⟨#[]⟩,.int .i64 0,.int .i64 (e:Int)]:=by
 unfold zdw;rw [h];obtain ⟨e,rfl⟩:∃e',e=e'+1:=⟨e-1,by omega⟩
 rfl
theorem zbD {s:ByteArray} {k j:Nat} {b:List UInt8} (h:Fr.nx (s.data.toList.drop k)=(0,j,b)):zdw s k= .tuple #[.string ⟨b.toArray⟩,.int .i64 ((k+j:Nat):Int),.int .i64 0]:=by
 unfold zdw;rw [h]
def nxAt (s:ByteArray) (i:Int):Value:=if i<0 then .tuple #[.string ⟨#[]⟩,.int .i64 0,.int .i64 2] else zdw s i.toNat
theorem zba {w:World} (n:Nat):Below w.heap.size w (w.drewN n):=by
 induction n generalizing w with
 | zero=>exact Below.refl _ _
 | succ n ih=>exact ih.drew
theorem zel {s:ByteArray} {i:Int} (h:i<0\/(s.size:Int)<=i):nxAt s i= .tuple #[.string ⟨#[]⟩,.int .i64 0,.int .i64 2]:=by
 unfold nxAt
 split
 · rfl
 · exact zaD (e:=2) (by rw [List.drop_eq_nil_of_le (by show s.size<=i.toNat;omega)];exact Fr.nx_cut rfl) (by omega)
theorem zbQ (s:ByteArray) (k:Nat):nxAt s (k:Int)=zdw s k:=by unfold nxAt;rw [if_neg (by omega)];simp
theorem zfI (s:ByteArray) (i:Int) (w:World) (h:i<0\/(s.size:Int)<=i):
 Calls Try.prog 24 #[.string s,.int .i64 i] w fun e w'=>e= .returned (.tuple #[.string ⟨#[]⟩,.int .i64 0,.int .i64 2])/\w=w':=by
 by_cases h0:i<0
 · clear h
   go_enter Try.func24,Try.ntmps24
   go_wp2_with fail;go_ret3;exact ⟨rfl,rfl⟩
 · have h1:(s.size:Int)<=i:=by omega
   clear h
   go_enter Try.func24,Try.ntmps24
   go_wp2_with fail;go_ret3;exact ⟨rfl,rfl⟩
theorem zec (s:ByteArray) (k q:Nat) (w:World) (h1:k<=q) (h2:q<=s.size):(Instr.slice 9 (.string s) (some (.int .i64 (k:Int))) (some (.int .i64 (q:Int))) none).run Try.prog w= .ok (.string (s.extract k q)) w:=by
 have:=run_slice_string (P:=Try.prog) w 9 s .i64 .i64 (k:Int) (q:Int) Try.underlying9 (by omega) (by omega) (by omega);rw [this]
 congr 3
theorem slice_q4 (s:ByteArray) (q:Nat) (w:World) (h2:q+4<=s.size):(Instr.slice 9 (.string s) (some (.int .i64 (q:Int))) (some (.int .i64 ((q:Int)+4))) none).run Try.prog w= .ok (.string (s.extract q (q+4))) w:=by
 have:=run_slice_string (P:=Try.prog) w 9 s .i64 .i64 (q:Int) ((q:Int)+4) Try.underlying9 (by omega) (by omega) (by omega);rw [this]
 congr 3
theorem fnext_in (s:ByteArray) (k:Nat) (w:World) (hs:s.size<=140737488351232) (hk:k<s.size):
 Calls Try.prog 24 #[.string s,.int .i64 k] w fun e w'=>e= .returned (zdw s k)/\Below w.heap.size w w':=by
 have hk0:decide ((k:Int)<0)=false:=by simp
 have hk1:decide ((s.size:Int)<=(k:Int))=false:=by simp;omega
 have C:=zid fun W:World=>zfC (s.extract k s.size) W (by unfold maxLen;rw [ByteArray.size_extract];omega);rw [zaN,List.take_of_length_le (by simp)] at C;have D:=zid fun W:World=>zeh s (k:Int) W (by omega)
 have hL:(s.data.toList.drop k).length=s.size-k:=by rw [List.length_drop];rfl
 have HL:=zid hL;clear hL
 by_cases hc:Fr.cutB (s.data.toList.drop k)=true
 · rw [hc] at C
   have HV:=zid (zaD (Fr.nx_cut hc) (by omega))
   clear hc
   go_enter Try.func24,Try.ntmps24
   go_wp2_with fail;refine (C.out _).mono ?_;rintro e w' ⟨rfl,rfl⟩;go_wp2_with fail;go_ret3;exact ⟨by rw [HV.out];rfl,Below.refl _ _⟩
 have hc:Fr.cutB (s.data.toList.drop k)=false:=by simpa using hc
 rw [hc] at C
 have e0:rdAt s (k:Int)=zcm (s.data.toList.drop k) k:=by unfold rdAt;rw [if_neg (by omega)];simp
 rw [e0] at D;clear e0
 rcases ht:Vp.take (s.data.toList.drop k) with _ | ⟨m,j⟩
 · rw [zay k ht] at D
   have HV:=zid (zaD (Fr.nx_none hc ht) (by omega))
   clear hc ht
   go_enter Try.func24,Try.ntmps24
   go_wp2_with fail;refine (C.out _).mono ?_;rintro e w' ⟨rfl,rfl⟩;go_wp2_with fail;refine (D.out _).mono ?_;rintro e w' ⟨rfl,n,rfl⟩;go_wp2_with fail;go_ret3;exact ⟨by rw [HV.out];rfl,zba n⟩
 rw [zaU k ht] at D;obtain ⟨hj0,hj9,hjl,hm63⟩:=Vp.take_some ht;rw [HL.out] at hjl;obtain ⟨q,hq⟩:∃q,k+j=q:=⟨_,rfl⟩
 have hq1:k<=q:=by omega
 have hq2:q<=s.size:=by omega
 rw [show (k:Int)+(j:Int)=(q:Int) from by omega] at D;have HQ:=zid hq;have HT:=zid ht;have HJ:=zid (show j=q-k by omega);clear hq hc ht
 by_cases hm:Fr.May m
 · have F:=zid fun W:World=>zfz (m:Int) W (by have:=hm.1;omega) (by have:=hm.2;omega)
   have hm2:m<=65536:=hm.2
   have HM:=zid hm;clear hm
   by_cases hl:s.size<q+4+m
   · have HV:=zid (zaD (Fr.nx_short HT.out HM.out (by rw [HL.out];have:=HQ.out;omega)) (by omega))
     clear hjl hj0 hj9
     go_enter Try.func24,Try.ntmps24
     go_wp2_with fail;refine (C.out _).mono ?_;rintro e w' ⟨rfl,rfl⟩;go_wp2_with fail;refine (D.out _).mono ?_;rintro e w' ⟨rfl,n,rfl⟩;go_wp2_with fail;refine (F.out _).mono ?_;rintro e w' ⟨rfl,rfl⟩;go_wp2_with fail;go_ret3;exact ⟨by rw [HV.out];rfl,zba n⟩
   · have hl':q+4+m<=s.size:=by omega
     have HNL:Hid (¬(s.data.toList.drop k).length<j+4+m):=zid (by rw [HL.out];have:=HQ.out;omega)
     clear hl hjl hj0 hj9
     go_enter Try.func24,Try.ntmps24
     go_wp2_with fail;refine (C.out _).mono ?_;rintro e w' ⟨rfl,rfl⟩;go_wp2_with fail;refine (D.out _).mono ?_;rintro e w' ⟨rfl,n,rfl⟩;go_wp2_with fail;refine (F.out _).mono ?_;rintro e w' ⟨rfl,rfl⟩;go_wp2_with fail;obtain ⟨B,hB⟩:∃B,s.extract (q+4) (q+4+m)=B:=⟨_,rfl⟩
     have hBs:B.size<=maxLen:=by rw [<-hB,ByteArray.size_extract];unfold maxLen;omega
     have hAs:(s.extract k q).size<=maxLen:=by rw [ByteArray.size_extract];unfold maxLen;omega
     rw [hB];have HB:=zid hB;clear hB
     have E0:∀W:World,zb0 (W.alloc (.cells #[.string (s.extract k q),.string B] 9)) (.slice (some ⟨W.heap.size,0,none⟩) 2 2) [s.extract k q,B]:=fun W=>
      zb0.lits W [s.extract k q,B] (show 2<=maxLen by decide) (fun x hx=>by
       simp only [List.mem_cons,List.not_mem_nil,or_false] at hx
       rcases hx with rfl | rfl
       · exact hAs
       · exact hBs)
     have E:=zid fun W:World=>zfd _ _ _ (E0 W);clear E0 hAs hBs;have hX:=Cp.sum_lt 0 (cat [s.extract k q,B]);obtain ⟨X,hXe⟩:∃X,Cp.sum 0 (cat [s.extract k q,B])=X:=⟨_,rfl⟩;rw [hXe] at E hX;have HX:=zid hXe;clear hXe;have G:=zid fun W:World=>zc5 X W hX;rw [zbo] at G;clear hX;have hs1:=fun W:World=>zec s k q W hq1 hq2;have hs2:=fun W:World=>slice_q4 s q W (by omega)
     have i1:(k:Int)<=(q:Int):=by omega
     have i2:(q:Int)<=(s.size:Int):=by omega
     have i3:(q:Int)<=(q:Int)+4:=by omega
     have i4:(q:Int)+4<=(s.size:Int):=by omega
     have i5:0<=(q:Int)+4:=by omega
     go_cut [66] (fun v w2=>∃c:Bool,v= .bool c/\(c=false↔Fr.four X=(s.extract q (q+4)).data.toList)/\Below w.heap.size w w2)
     case first=>
      go_region_with (first | (go_at_call 39;refine (E.out _).mono ?_;rintro e w4 ⟨rfl,b4⟩) | (go_at_call 38;refine (G.out _).mono ?_;rintro e w5 ⟨rfl,b5⟩))
      go_wp2_with fail;go_meet
      case rel=>
       refine ⟨_,rfl,?_,zaM (zba n).drew (zaM (zaq b4) b5)⟩;rw [Lib.toList_data]
       simp
     case rest=>
      obtain ⟨c,rfl,hc,hb⟩:=hcut
      have e1:(s.extract q (q+4)).data.toList=((s.data.toList.drop k).drop j).take 4:=by
       rw [zaN,List.drop_drop,HQ.out,show q+4-q=4 from by omega]
      have e2:B.data.toList=((s.data.toList.drop k).drop (j+4)).take m:=by
       rw [<-HB.out,zaN,List.drop_drop,show k+(j+4)=q+4 from by have:=HQ.out;omega,show q+4+m-(q+4)=m from by omega]
      have e3:(s.extract k q).data.toList=(s.data.toList.drop k).take j:=by
       rw [zaN,HJ.out]
      have e4:X=Cp.sum 0 ((s.data.toList.drop k).take j++((s.data.toList.drop k).drop (j+4)).take m):=by
       rw [<-HX.out, <-e2, <-e3];simp [cat]
      rw [e1,e4] at hc
      cases c with
      | false=>
       have HV:=zbD (Fr.nx_ok HT.out HM.out HNL.out (hc.1 rfl));rw [<-e2,show k+(j+4+m)=q+4+m from by have:=HQ.out;omega] at HV;have HV:=zid HV;clear hc e1 e2 e3 e4;go_wp2_with fail;go_ret3;refine ⟨?_,hb⟩;rw [HV.out]
       rfl
      | true=>
       have hne:Fr.four (Cp.sum 0 ((s.data.toList.drop k).take j++((s.data.toList.drop k).drop (j+4)).take m))≠((s.data.toList.drop k).drop j).take 4:=by
        intro hh;have:=hc.2 hh
        cases this
       have HV:=zid (zaD (Fr.nx_sum HT.out HM.out HNL.out hne) (by omega));clear hc e1 e2 e3 e4 hne;go_wp2_with fail;go_ret3;refine ⟨?_,hb⟩;rw [HV.out]
       rfl
 · have F:=zid fun W:World=>may_no (m:Int) W (by unfold Fr.May at hm;omega)
   have HV:=zid (zaD (Fr.nx_form HT.out hm) (by omega))
   clear hm hjl hj0 hj9
   go_enter Try.func24,Try.ntmps24
   go_wp2_with fail;refine (C.out _).mono ?_;rintro e w' ⟨rfl,rfl⟩;go_wp2_with fail;refine (D.out _).mono ?_;rintro e w' ⟨rfl,n,rfl⟩;go_wp2_with fail;refine (F.out _).mono ?_;rintro e w' ⟨rfl,rfl⟩;go_wp2_with fail;go_ret3;exact ⟨by rw [HV.out];rfl,zba n⟩
theorem zdF (s:ByteArray) (i:Int) (w:World) (hs:s.size<=140737488351232):
 Calls Try.prog 24 #[.string s,.int .i64 i] w fun e w'=>e= .returned (nxAt s i)/\Below w.heap.size w w':=by
 by_cases h:i<0\/(s.size:Int)<=i
 · rw [zel h]
   exact (zfI s i w h).mono fun _ _ ⟨he,hw⟩=>⟨he,by rw [<-hw];exact Below.refl _ _⟩
 · obtain ⟨k,rfl⟩:∃k:Nat,i=(k:Int):=⟨i.toNat,by omega⟩
   rw [zbQ]
   exact fnext_in s k w hs (by omega)
def zbc (r:Rp.Rec):Value:= .agg #[.int .i64 r.a,.int .i64 r.t,.string r.d]
structure RecOk (r:Rp.Rec):Prop where
 a0: -9223372036854775808<=r.a
 a1:r.a<=9223372036854775807
 t0: -9223372036854775808<=r.t
 t1:r.t<=9223372036854775807
 d1:r.d.size<=9223372036854775807
theorem zcz (n:Int) (w:World):
 Calls Try.prog 64 #[.int .i64 n] w fun e w'=>e= .returned (.bool (Rp.inB n))/\w=w':=by
 by_cases h0:0<=n
 · by_cases h1:n<=1099511627776
   · rw [Rp.inB_mk h0 h1]
     go_enter Try.func64,Try.ntmps64
     go_wp2_with fail;go_ret;exact ⟨rfl,rfl⟩
   · rw [Rp.inB_no (by omega)]
     have h2:decide (n<=1099511627776)=false:=by simp;omega
     clear h1
     go_enter Try.func64,Try.ntmps64
     go_wp2_with fail;go_ret;exact ⟨rfl,rfl⟩
 · rw [Rp.inB_no (by omega)]
   have h2:decide (0<=n)=false:=by simp;omega
   clear h0
   go_enter Try.func64,Try.ntmps64
   go_wp2_with fail;go_ret;exact ⟨rfl,rfl⟩
theorem zch (n:Int) (w:World):
 Calls Try.prog 56 #[.int .i64 n] w fun e w'=>e= .returned (.bool (Rp.inB n))/\w=w':=by
 by_cases h0:0<=n
 · by_cases h1:n<=1099511627776
   · rw [Rp.inB_mk h0 h1]
     go_enter Try.func56,Try.ntmps56
     go_wp2_with fail;go_ret;exact ⟨rfl,rfl⟩
   · rw [Rp.inB_no (by omega)]
     have h2:decide (n<=1099511627776)=false:=by simp;omega
     clear h1
     go_enter Try.func56,Try.ntmps56
     go_wp2_with fail;go_ret;exact ⟨rfl,rfl⟩
 · rw [Rp.inB_no (by omega)]
   have h2:decide (0<=n)=false:=by simp;omega
   clear h0
   go_enter Try.func56,Try.ntmps56
   go_wp2_with fail;go_ret;exact ⟨rfl,rfl⟩
theorem zfL (r:Rp.Rec) (w:World) (hd:r.d.size<=9223372036854775807):
 Calls Try.prog 63 #[zbc r] w fun e w'=>e= .returned (.int .i64 (Rp.fault r))/\Below w.heap.size w w':=by
 have C1:=zid fun W:World=>zcz r.a W;have C2:=zid fun W:World=>zcz r.t W;have F1:=zid (@Rp.fault_a r);have F2:=zid (@Rp.fault_t r);have F3:=zid (@Rp.fault_d r);have F4:=zid (@Rp.fault_ok r);unfold zbc
 rcases h1:Rp.inB r.a with _ | _
 · rw [h1] at C1
   have HF:=zid (F1.out h1)
   clear h1
   go_enter Try.func63,Try.ntmps63
   go_wp2_with fail;refine (C1.out _).mono ?_;rintro e w' ⟨rfl,rfl⟩;go_wp2_with fail;go_ret;exact ⟨by rw [HF.out];rfl,(Below.refl _ _).alloc (Nat.le_refl _) _⟩
 have H1:=zid h1;rw [h1] at C1;clear h1
 rcases h2:Rp.inB r.t with _ | _
 · rw [h2] at C2
   have HF:=zid (F2.out h2)
   clear h2
   go_enter Try.func63,Try.ntmps63
   go_wp2_with fail;refine (C1.out _).mono ?_;rintro e w' ⟨rfl,rfl⟩;go_wp2_with fail;refine (C2.out _).mono ?_;rintro e w' ⟨rfl,rfl⟩;go_wp2_with fail;go_ret;exact ⟨by rw [HF.out];rfl,(Below.refl _ _).alloc (Nat.le_refl _) _⟩
 have H2:=zid h2;rw [h2] at C2;clear h2
 by_cases h3:64<(r.d.size:Int)
 · have HF:=zid (F3.out H1.out H2.out (by omega))
   go_enter Try.func63,Try.ntmps63
   go_wp2_with fail;refine (C1.out _).mono ?_;rintro e w' ⟨rfl,rfl⟩;go_wp2_with fail;refine (C2.out _).mono ?_;rintro e w' ⟨rfl,rfl⟩;go_wp2_with fail;go_ret;exact ⟨by rw [HF.out];rfl,(Below.refl _ _).alloc (Nat.le_refl _) _⟩
 · have HF:=zid (F4.out H1.out H2.out (by omega))
   go_enter Try.func63,Try.ntmps63
   go_wp2_with fail;refine (C1.out _).mono ?_;rintro e w' ⟨rfl,rfl⟩;go_wp2_with fail;refine (C2.out _).mono ?_;rintro e w' ⟨rfl,rfl⟩;go_wp2_with fail;go_ret;exact ⟨by rw [HF.out];rfl,(Below.refl _ _).alloc (Nat.le_refl _) _⟩
def okB (r:Rp.Rec):Bool:=decide (Rp.fault r=0)
theorem zdV {r:Rp.Rec} (h:Rp.fault r=0):okB r=true:=decide_eq_true h
theorem zek {r:Rp.Rec} (h:Rp.fault r≠0):okB r=false:=decide_eq_false h
theorem zfk (r:Rp.Rec) (w:World) (hd:r.d.size<=9223372036854775807):
 Calls Try.prog 60 #[zbc r] w fun e w'=>e= .returned (.bool (okB r))/\Below w.heap.size w w':=by
 have C:=fun W:World=>zfL r W hd
 rcases Rp.fault_cases r with ⟨h,_⟩ | ⟨_,h⟩
 · rw [zdV h]
   rw [h] at C
   have C:=zid C;clear h;unfold zbc at C ⊢
   go_enter Try.func60,Try.ntmps60
   go_wp2_with fail;refine (C.out _).mono ?_;rintro e w' ⟨rfl,b1⟩;go_wp2_with fail;go_ret;exact ⟨rfl,zaq b1⟩
 · rw [zek (by omega)]
   rcases h with h | h
   all_goals
    rw [h] at C
    have C:=zid C;clear h;unfold zbc at C ⊢
    go_enter Try.func60,Try.ntmps60
    go_wp2_with fail;refine (C.out _).mono ?_;rintro e w' ⟨rfl,b1⟩;go_wp2_with fail;go_ret;exact ⟨rfl,zaq b1⟩
end
section
open Go.RowKit Go.ChangeShapes Go.WideShapes Go.Deep Go.Joins
theorem i64_wf {n:Int} (h:(Lit.int .i64 n).wf=true): -9223372036854775808<=n/\n<=9223372036854775807:=by
 simpa [Lit.wf,IntKind.min,IntKind.max,IntKind.signed,IntKind.bits] using h
def zae (w:World) (v:Value) (rs:List Rp.Rec):Prop:=
 ∃a cap,v= .slice a rs.length cap/\rs.length<=maxLen/\(∀r∈rs,RecOk r)/\
  (rs=[]\/ ∃b off,a=some ⟨b,off,none⟩/\∀i,i<rs.length->
   w.cell? ⟨b,off+i*3,none⟩=some (.int .i64 (rs.getD i Rp.zero).a)/\w.cell? ⟨b,off+i*3+1,none⟩=some (.int .i64 (rs.getD i Rp.zero).t)/\w.cell? ⟨b,off+i*3+2,none⟩=some (.string (rs.getD i Rp.zero).d))
theorem zae.below {B:Nat} {w w':World} {v:Value} {rs:List Rp.Rec} (h:zae w v rs) (hb:Below B w w') (hB:w.heap.size<=B):zae w' v rs:=by
 obtain ⟨a,cap,rfl,h1,h2,h3⟩:=h;refine ⟨a,cap,rfl,h1,h2,?_⟩
 rcases h3 with h3 | ⟨b,off,rfl,h4⟩
 · exact .inl h3
 · refine .inr ⟨b,off,rfl,fun i hi=>?_⟩
   obtain ⟨c0,c1,c2⟩:=h4 i hi
   have hl:=Nat.lt_of_lt_of_le (block_lt_of_cell c0) hB;exact ⟨(hb.cell (p:=⟨b,off+i*3,none⟩) hl).trans c0,(hb.cell (p:=⟨b,off+i*3+1,none⟩) hl).trans c1,(hb.cell (p:=⟨b,off+i*3+2,none⟩) hl).trans c2⟩
theorem zae.nil (w:World) (a:Option Addr) (cap:Nat):zae w (.slice a 0 cap) []:=⟨a,cap,rfl,by simp,by simp,.inl rfl⟩
section
variable {H:Type} {enc:TypeId×Value->H} {w:World} {base:Nat} {spare:Nat->Bool} {held:Bool}
theorem zcx (b off j:Nat):(⟨b,off,none⟩:Addr).add j=⟨b,off+j,none⟩:=by
 unfold Addr.add
 split<;>simp_all
theorem zfu {a:Option Addr} {len cap:Nat} {d:DataW H} {p:List MemPlace} (h:DataW.Trod enc Try.prog w base spare held 23 (.slice a len cap) d p):
 ∃rs,zae w (.slice a len cap) rs:=by
 obtain ⟨fuel,hf⟩:=h
 rcases open_slice Try.underlying23 hf with ⟨hc,_⟩ | ⟨x,l,c,m,n,D,Pl,hc,_,hl,hm,hmm,_,hi⟩
 · simp [Value.cells] at hc
   obtain ⟨rfl,rfl,rfl⟩:=hc
   exact ⟨[],zae.nil w none 0⟩
 · simp [Value.cells] at hc
   obtain ⟨rfl,rfl,rfl⟩:=hc
   have hlm:len<=m:=by rw [hmm];split<;>omega
   have hC:Try.prog.cellsOf 41=3:=by kernel_rfl
   have hO:Try.prog.cellsOf 3=1:=by kernel_rfl
   have hS:Try.prog.cellsOf 9=1:=by kernel_rfl
   rw [hC] at hi
   have key:∀i,i<len->∃r:Rp.Rec,RecOk r/\w.cell? (x.add (i*3))=some (.int .i64 r.a)/\w.cell? ((x.add (i*3)).add 1)=some (.int .i64 r.t)/\w.cell? ((x.add (i*3)).add 2)=some (.string r.d):=by
    intro i hil;obtain ⟨cs',hcs,ht⟩:=hi i (by omega);obtain ⟨_,hlen,hat⟩:=World.cells?_some hcs;obtain ⟨y0,y1,y2,n',_,_,h0,h1,h2⟩:=trod_struct3 Try.underlying41 ht;obtain ⟨ra,ha,_,wa⟩:=DataW.trod_int Try.underlying3 h0;obtain ⟨rt,ht,_,wt⟩:=DataW.trod_int Try.underlying3 h1;obtain ⟨rs,hs,_,ws⟩:=DataW.trod_string Try.underlying9 h2
    obtain ⟨c0,c1,c2,rfl⟩:∃c0 c1 c2,cs'=[c0,c1,c2]:=by
     match cs',hlen with
     | [c0,c1,c2],_=>exact ⟨c0,c1,c2,rfl⟩
    simp [hO,hS] at ha ht hs
    have ba:=i64_wf wa;have bt:=i64_wf wt;unfold maxLen at ws;refine ⟨⟨ra,rt,rs⟩,⟨ba.1,ba.2,bt.1,bt.2,ws⟩,?_,?_,?_⟩
    · have:=hat 0 (by omega);simpa [ha,Addr.add] using this
    · have:=hat 1 (by omega);simpa [ht] using this
    · have:=hat 2 (by omega);simpa [hs] using this
   obtain ⟨f,hf'⟩:∃f:Nat->Rp.Rec,∀i,i<len->RecOk (f i)/\w.cell? (x.add (i*3))=some (.int .i64 (f i).a)/\w.cell? ((x.add (i*3)).add 1)=some (.int .i64 (f i).t)/\w.cell? ((x.add (i*3)).add 2)=some (.string (f i).d):=by
    refine ⟨fun i=>if h:i<len then Classical.choose (key i h) else Rp.zero,fun i h=>?_⟩;simp only [dif_pos h];exact Classical.choose_spec (key i h)
   have hlen:((List.range len).map f).length=len:=by simp
   refine ⟨(List.range len).map f,some x,cap,by rw [hlen],by rw [hlen];omega,?_,?_⟩
   · intro r hr
     rw [List.mem_map] at hr
     obtain ⟨i,hi',rfl⟩:=hr;exact (hf' i (by simpa using hi')).1
   · by_cases h0:len=0
     · subst h0;exact .inl rfl
     · obtain ⟨b,off,spot⟩:=x
       have h1:=(hf' 0 (by omega)).2.1
       rw [Nat.zero_mul] at h1
       have hspot:spot=none:=by simpa [Addr.add] using World.cell?_spot h1
       subst hspot;refine .inr ⟨b,off,rfl,fun i hi'=>?_⟩;rw [hlen] at hi'
       have e:((List.range len).map f).getD i Rp.zero=f i:=by simp [List.getD_eq_getElem?_getD,hi']
       rw [e];obtain ⟨_,c0,c1,c2⟩:=hf' i hi';rw [zcx] at c0 c1 c2;rw [zcx] at c1 c2;exact ⟨c0,c1,c2⟩
end
section
variable {H:Type} {enc:TypeId×Value->H} {w:World} {base:Nat} {spare:Nat->Bool} {held:Bool}
end
end
end Go.Proofs.Ytmkdcpjlhphhiaa

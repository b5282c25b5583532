/-
  Parts of what the laws of this seat stand on:FoldParse,FoldRparse,TrmRef.
-/
import Derived.Test.YtgmppfpllogdcaaGreatBi1
import Derived.Test.YtgmppfpllogdcaaGreatBi16
import Derived.Test.YtgmppfpllogdcaaGreatBi22
import Derived.Test.YtgmppfpllogdcaaGreatBi30
import Derived.Test.YtgmppfpllogdcaaGreatBi32
import Derived.Test.YtgmppfpllogdcaaGreatBi5
set_option maxRecDepth 100000
set_option maxHeartbeats 6400000
namespace Go.Proofs.YtgmppfpllogdcaaGreat
section
open Go.RowKit
def zan (w:World) (L:List UInt8) (e:Ending) (w':World):Prop:=
 ∃v,e= .returned (.tuple #[v,.bool (Fp.parse L).isSome])/\zaY w' v ((Fp.parse L).getD [])/\Below w.heap.size w w'
theorem zan.no {w w':World} {L:List UInt8} (h:Fp.parse L=none) (hb:Below w.heap.size w w'):zan w L (.returned (.tuple #[.slice none 0 0,.bool false])) w':=by
 unfold zan;rw [h];exact ⟨_,rfl,zaY.nil _ _ _,hb⟩
theorem zan.yes {w w':World} {L:List UInt8} {l:List Fp.Pr} {v:Value} (h:Fp.parse L=some l) (hv:zaY w' v l) (hb:Below w.heap.size w w'):zan w L (.returned (.tuple #[v,.bool true])) w':=by
 unfold zan;rw [h];exact ⟨_,rfl,hv,hb⟩
theorem zeY {L:List UInt8} (h:Vp.take L=none):Fp.parse L=none:=by unfold Fp.parse;rw [h]
theorem zeZ {L:List UInt8} {n j:Nat} (h:Vp.take L=some (n,j)) (hn:256<n):Fp.parse L=none:=by
 unfold Fp.parse;rw [h]
 simp only
 rw [if_pos hn]
theorem zgA {L:List UInt8} {n j:Nat} (h:Vp.take L=some (n,j)) (hn:n<=256):(Fp.run n L [] j=none->Fp.parse L=none)/\
 (∀ps i,Fp.run n L [] j=some (ps,i)->(i=L.length->Fp.stB ps=true->Fp.parse L=some ps)/\(i≠L.length->Fp.parse L=none)/\(Fp.stB ps=false->Fp.parse L=none)):=by
 have key:∀r,Fp.run n L [] j=r->Fp.parse L=match r with
  | none=>none
  | some (ps,i)=>if i=L.length/\Fp.stB ps=true then some ps else none:=by
  intro r hr;unfold Fp.parse;rw [h]
  simp only
  rw [if_neg (by omega),hr]
  rcases r with _ | ⟨ps,i⟩<;>rfl
 refine ⟨fun hr=>key _ hr,fun ps i hr=>⟨fun h1 h2=>?_,fun h1=>?_,fun h1=>?_⟩⟩
 · rw [key _ hr];simp only;rw [if_pos ⟨h1,h2⟩]
 · rw [key _ hr];simp only;rw [if_neg (fun h2=>h1 h2.1)]
 · rw [key _ hr];simp only;rw [if_neg (fun h2=>by rw [h1] at h2;cases h2.2)]
theorem zk1 (w:World) (N:Nat) (x y:Value) (T:TypeId) (h:w.heap.size=N):∀(j:Nat) (u:Value),[x,y][j]?=some u->(w.alloc (.cells #[x,y] T)).cell? ((⟨N,0,none⟩:Addr).add j)=some u:=by
 subst h;exact zdR w x y T
structure ParseIn (w:World) (s:ByteArray) (n j i:Nat) (acc:List Fp.Pr) (k:Nat) (v:Value) (wr:World):Prop where
 own:Own wr w.heap.size v acc
 run:Fp.run (n-i) s.data.toList acc k=Fp.run n s.data.toList [] j
 len:acc.length=i
 val:∀p∈acc,p.v.size<=s.size
 at_:k<=s.size
 bel:Below w.heap.size w wr
theorem zip {L acc:List _} {n i k:Nat} {r:Option (List Fp.Pr×Nat)} (h:Fp.run (n-i) L acc k=r) (hi:i<n) (hp:Fp.pairAt (L.drop k)=none):r=none:=by
 rw [show n-i=(n-(i+1))+1 by omega,Fp.run,hp] at h;exact h.symm
theorem ziq {L acc:List _} {n i k m:Nat} {p:Fp.Pr} {r:Option (List Fp.Pr×Nat)} (h:Fp.run (n-i) L acc k=r) (hi:i<n) (hp:Fp.pairAt (L.drop k)=some (p,m)):Fp.run (n-(i+1)) L (acc++[p]) (k+m)=r:=by
 rw [show n-i=(n-(i+1))+1 by omega,Fp.run,hp] at h;exact h
theorem zir {L acc:List _} {n k:Nat} {r:Option (List Fp.Pr×Nat)} (h:Fp.run (n-n) L acc k=r):r=some (acc,k):=by
 rw [Nat.sub_self,Fp.run] at h;exact h.symm
theorem zhX (s:ByteArray) (w:World) (hs:s.size<=4611686018427387904) (ht:Vp.take s.data.toList=none):
 Calls Tryz.prog 58 #[.string s] w (zan w s.data.toList):=by
 have C:=fun W:World=>zdp s ((0:Nat):Int) W (by omega);rw [zcj (by simpa using ht)] at C;have C:∀W:World,Calls Tryz.prog 90 #[.string s,.int .i64 0] W fun e w'=>e= .returned (.tuple #[.int .i64 0,.int .i64 0,.bool false])/\Below W.heap.size W w':=C;have C:=zid C;have HV:=zid (zeY ht);clear ht
 go_enter Tryz.func58,Tryz.ntmps58
 go_wp2_with fail;refine (C.out _).mono ?_;rintro e w1 ⟨rfl,b1⟩;go_wp2_with fail;go_ret2;exact zan.no HV.out b1
theorem zhW (s:ByteArray) (n j:Nat) (w:World) (hs:s.size<=1000000000000) (ht:Vp.take s.data.toList=some (n,j)):
 Calls Tryz.prog 58 #[.string s] w (zan w s.data.toList):=by
 obtain ⟨i0,hi0,hz0,hz1,hz2⟩:=info_parts zdG;have hjl:=(Vp.take_some ht).2.2.1;rw [show s.data.toList.length=s.size from rfl] at hjl;have C:=fun W:World=>zdp s ((0:Nat):Int) W (by omega);rw [zbf (k:=0) ht (Nat.zero_add j)] at C;have C:∀W:World,Calls Tryz.prog 90 #[.string s,.int .i64 0] W fun e w'=>e= .returned (.tuple #[.int .i64 (n:Int),.int .i64 (j:Int),.bool true])/\Below W.heap.size W w':=C;have C:=zid C
 by_cases hn:256<n
 · have HV:=zid (zeZ ht hn)
   have hni:(256:Int)<(n:Int):=by omega
   clear ht hn
   go_enter Tryz.func58,Tryz.ntmps58
   go_wp2_with fail;refine (C.out _).mono ?_;rintro e w1 ⟨rfl,b1⟩;go_wp2_with fail;go_ret2;exact zan.no HV.out b1
 · have HV:=zid (zgA ht (by omega))
   have hni:(n:Int)<=256:=by omega
   have hnn:n<=256:=by omega
   clear ht hn;have HP:=zid fun (k:Nat) (hk:k<=s.size) (W:World)=>pair_any s k W (by omega) hk
   go_enter Tryz.func58,Tryz.ntmps58
   go_wp2_with fail;refine (C.out _).mono ?_;rintro e w1 ⟨rfl,b1⟩;have HI:Hid (ParseIn w s n j 0 [] j (.slice none 0 0) w1):=⟨Own.nil _ _,rfl,rfl,by simp,hjl,b1⟩;clear b1;go_wp2_with fail
   go_loopw [5,7,24] (fun x v y wr=>∃(i k:Nat) (acc:List Fp.Pr),i<=n/\x= .int .i64 k/\y= .int .i64 i/\ParseIn w s n j i acc k v wr) (fun _ _ y _=>n-(intOf y).toNat)
   case atStart=>exact ⟨0,j,[],Nat.zero_le _,rfl,rfl,HI.out⟩
   case round=>
    obtain ⟨i,k,acc,hi,rfl,rfl,hr⟩:=hrel;have HR:=zid hr;have hkl:=hr.at_;have hal:=hr.len;have HS:=zid hr.bel.size;clear hr
    by_cases hlt:i<n
    · have P:=fun W:World=>HP.out k hkl W
      rcases hp:Fp.pairAt (s.data.toList.drop k) with _ | ⟨p,m⟩
      · rw [zcN k hp] at P
        have P:=zid P
        have HV2:=zid (show Fp.parse s.data.toList=none from HV.out.1 (zip HR.out.run hlt hp));have HB:=zid HR.out.bel;clear hp;go_wp2_with fail;refine (P.out _).mono ?_;rintro e w2 ⟨rfl,b2⟩;have HF:=zid (fun W (hW:Below w2.heap.size w2 W)=>zan.no HV2.out (HB.out.trans ((zah b2 hW).mono HS.out)));clear b2;go_wp2_with fail;go_ret2;exact HF.out _ ((Below.refl _ _).alloc (Nat.le_refl _) _)
      · rw [zdQ k hp] at P
        have P:=zid P
        have hml:=Fp.pairAt_len hp;rw [List.length_drop,show s.data.toList.length=s.size from rfl] at hml;have HT:=zid (ziq HR.out.run hlt hp);clear hp;go_wp2_with fail;refine (P.out _).mono ?_;rintro e w2 ⟨rfl,b2⟩;have HB:=zid (HR.out.bel.trans (b2.mono HS.out));have HO:=zid (HR.out.own.below b2);have hS2:=zid HB.out.size;clear b2
        go_wp2_with (at_builtin;refine wpList_append_own _ rfl _ _ 42 rfl w.heap.size 86 i0 (.agg #[.int .u8 0,.string ByteArray.empty]) 2 24 Tryz.underlying42 hi0 hz0 hz1 hz2 rfl (by decide) _ _ _ rfl (World.ownsRow.alloc (World.ownsRow.alloc HO.out _) _) ⟨w2.heap.size+1,0,none⟩ 1 1 [.int .u8 (p.k.toNat:Int),.string p.v] rfl rfl (zk1 _ _ _ _ _ (by simp)) (by simp [Value.oneCell']) (by unfold maxLen;omega) (by omega) (by simp;have:=hS2.out;omega) ?_;intro v' w3 hown' hgrow3 hnil3)
        have HN:Hid (ParseIn w s n j (i+1) (acc++[p]) (k+m) v' w3):=⟨za4 hown',HT.out,by rw [List.length_append,HR.out.len];rfl,fun q hq=>(by
         rcases List.mem_append.1 hq with h | h
         · exact HR.out.val q h
         · rw [List.mem_singleton] at h
           rw [h]
           omega),by omega,((HB.out.alloc hS2.out _).alloc (by simp;have:=hS2.out;omega) _).grown hgrow3 (by simp;have:=hS2.out;omega) (fun q hq=>(World.ownsRow.lt HO.out q hq).1)⟩
        clear hown' hgrow3
        go_roundw
        case rel=>exact ⟨i+1,k+m,acc++[p],by omega,by go_num,by go_num,HN.out⟩
        case measure=>simp [intOf];omega
    · obtain rfl:i=n:=by omega
      have hrun:=HV.out.2 acc k (zir HR.out.run)
      have HB:=zid HR.out.bel;rw [show s.data.toList.length=s.size from rfl] at hrun
      by_cases hk:k<s.size
      · have HV2:=zid (hrun.2.1 (by omega))
        clear hrun
        go_wp2_with fail;go_ret2;exact zan.no HV2.out HB.out
      · obtain rfl:k=s.size:=by omega
        have R0:Hid (∀v,ParseIn w s i j i acc s.size v wr->zaY wr v acc):=fun v h=>h.own.is (by have:=h.len;unfold maxLen;omega) (fun p hp=>by have:=h.val p hp;omega)
        have HIS:=zid (R0.out _ HR.out);clear R0;have R:=zjH _ acc wr HIS.out
        rcases hb:Fp.stB acc with _ | _
        · have HV2:=zid (hrun.2.2 hb)
          rw [hb] at R
          have R:=zid R;clear hrun hb;go_wp2_with fail;refine R.out.mono ?_;rintro e w2 ⟨rfl,b2⟩;have HF:=zid (zan.no HV2.out (HB.out.trans (b2.mono HS.out)));clear b2;go_wp2_with fail;go_ret2;exact HF.out
        · have HV2:=zid (hrun.1 rfl hb)
          rw [hb] at R
          have R:=zid R;clear hrun hb;go_wp2_with fail;refine R.out.mono ?_;rintro e w2 ⟨rfl,b2⟩;have HF:=zid (zan.yes HV2.out (HIS.out.below b2 (Nat.le_refl _)) (HB.out.trans (b2.mono HS.out)));clear b2;go_wp2_with fail;go_ret2;exact HF.out
theorem zjI (s:ByteArray) (w:World) (hs:s.size<=1000000000000):
 Calls Tryz.prog 58 #[.string s] w (zan w s.data.toList):=by
 rcases ht:Vp.take s.data.toList with _ | ⟨n,j⟩
 · exact zhX s w (by omega) ht
 · exact zhW s n j w hs ht
theorem zgo (s:ByteArray) (w:World) (hs:s.size<=4611686018427387904) (ht:Vp.take s.data.toList=none):
 Calls Tryz.prog 12 #[.string s] w (zan w s.data.toList):=by
 have C:=fun W:World=>rread_any s ((0:Nat):Int) W (by omega);rw [zcj (by simpa using ht)] at C;have C:∀W:World,Calls Tryz.prog 38 #[.string s,.int .i64 0] W fun e w'=>e= .returned (.tuple #[.int .i64 0,.int .i64 0,.bool false])/\Below W.heap.size W w':=C;have C:=zid C;have HV:=zid (zeY ht);clear ht
 go_enter Tryz.func12,Tryz.ntmps12
 go_wp2_with fail;refine (C.out _).mono ?_;rintro e w1 ⟨rfl,b1⟩;go_wp2_with fail;go_ret2;exact zan.no HV.out b1
theorem zgn (s:ByteArray) (n j:Nat) (w:World) (hs:s.size<=1000000000000) (ht:Vp.take s.data.toList=some (n,j)):
 Calls Tryz.prog 12 #[.string s] w (zan w s.data.toList):=by
 obtain ⟨i0,hi0,hz0,hz1,hz2⟩:=info_parts zdG;have hjl:=(Vp.take_some ht).2.2.1;rw [show s.data.toList.length=s.size from rfl] at hjl;have C:=fun W:World=>rread_any s ((0:Nat):Int) W (by omega);rw [zbf (k:=0) ht (Nat.zero_add j)] at C;have C:∀W:World,Calls Tryz.prog 38 #[.string s,.int .i64 0] W fun e w'=>e= .returned (.tuple #[.int .i64 (n:Int),.int .i64 (j:Int),.bool true])/\Below W.heap.size W w':=C;have C:=zid C
 by_cases hn:256<n
 · have HV:=zid (zeZ ht hn)
   have hni:(256:Int)<(n:Int):=by omega
   clear ht hn
   go_enter Tryz.func12,Tryz.ntmps12
   go_wp2_with fail;refine (C.out _).mono ?_;rintro e w1 ⟨rfl,b1⟩;go_wp2_with fail;go_ret2;exact zan.no HV.out b1
 · have HV:=zid (zgA ht (by omega))
   have hni:(n:Int)<=256:=by omega
   have hnn:n<=256:=by omega
   clear ht hn;have mixed:=zfD
   go_enter Tryz.func12,Tryz.ntmps12
   go_wp2_with fail;refine (C.out _).mono ?_;rintro e w1 ⟨rfl,b1⟩;have HI:Hid (ParseIn w s n j 0 [] j (.slice none 0 0) w1):=⟨Own.nil _ _,rfl,rfl,by simp,hjl,b1⟩;clear b1;go_wp2_with fail
   go_loopw [5,7,8] (fun x v y wr=>∃(i k:Nat) (acc:List Fp.Pr),i<=n/\x= .int .i64 k/\y= .int .i64 i/\ParseIn w s n j i acc k v wr) (fun _ _ y _=>n-(intOf y).toNat)
   case atStart=>exact ⟨0,j,[],Nat.zero_le _,rfl,rfl,HI.out⟩
   case round=>
    obtain ⟨i,k,acc,hi,rfl,rfl,hr⟩:=hrel;have HR:=zid hr;have hkl:=hr.at_;have hal:=hr.len;have HS:=zid hr.bel.size;clear hr
    by_cases hlt:i<n
    · have HB:=zid HR.out.bel
      have HVN:=zid fun (h:Fp.pairAt (s.data.toList.drop k)=none)=>HV.out.1 (zip HR.out.run hlt h)
      by_cases hk:k<s.size
      · have P:=fun W:World=>rread_any s ((k+1:Nat):Int) W (by omega)
        rcases ht:Vp.take (s.data.toList.drop (k+1)) with _ | ⟨n2,j2⟩
        · rw [zcj ht] at P
          have P:∀W:World,Calls Tryz.prog 38 #[.string s,.int .i64 ((k:Int)+1)] W fun e w'=>e= .returned (.tuple #[.int .i64 0,.int .i64 0,.bool false])/\Below W.heap.size W w':=P
          have P:=zid P;have HV2:=zid (HVN.out (zgB ht));clear ht;go_wp2_with fail;refine (P.out _).mono ?_;rintro e w2 ⟨rfl,b2⟩;have HF:=zid (zan.no HV2.out (HB.out.trans (b2.mono HS.out)));clear b2;go_wp2_with fail;go_ret2;exact HF.out
        · obtain ⟨_,hj2,hn2⟩:=zfo ht
          obtain ⟨q,hq⟩:∃q,k+1+j2=q:=⟨_,rfl⟩
          rw [zbf ht hq] at P;have P:∀W:World,Calls Tryz.prog 38 #[.string s,.int .i64 ((k:Int)+1)] W fun e w'=>e= .returned (.tuple #[.int .i64 (n2:Int),.int .i64 (q:Int),.bool true])/\Below W.heap.size W w':=P;have P:=zid P;have HPA:=zep ht hk;rw [hq] at HPA hj2;clear ht
          by_cases hlong:s.size<q+n2
          · have HV2:=zid (HVN.out (by rw [HPA,if_pos hlong]))
            have h1:(s.size:Int)-(q:Int)<(n2:Int):=by omega
            clear HPA hq hlong;go_wp2_with fail;refine (P.out _).mono ?_;rintro e w2 ⟨rfl,b2⟩;have HF:=zid (zan.no HV2.out (HB.out.trans (b2.mono HS.out)));clear b2;go_wp2_with fail;go_ret2;exact HF.out
          · rw [if_neg hlong] at HPA
            have HT:=ziq HR.out.run hlt HPA
            rw [show k+(1+j2+n2)=q+n2 by omega] at HT;have HT:=zid HT
            have h1:(n2:Int)<=(s.size:Int)-(q:Int):=by omega
            have h2:(q:Int)<=(s.size:Int):=by omega
            have h3:(q:Int)+(n2:Int)<=(s.size:Int):=by omega
            have h4:(q:Int)<=(q:Int)+(n2:Int):=by omega
            have h5:(k:Int)<(s.size:Int):=by omega
            have hqn:q+n2<=s.size:=by omega
            have hw1:IntKind.i64.wrap ((q:Int)+(n2:Int))=(q:Int)+(n2:Int):=IntWalk.i64_in _ ⟨by omega,by omega⟩
            have hw2:(0:Int)<=(q:Int)+(n2:Int):=by omega
            have hw3:((q:Int)+(n2:Int)).toNat=q+n2:=by omega
            clear HPA hq hlong;go_wp2_with fail;refine (P.out _).mono ?_;rintro e w2 ⟨rfl,b2⟩;have HB2:=zid (HR.out.bel.trans (b2.mono HS.out));have HO:=zid (HR.out.own.below b2);have hS2:=zid HB2.out.size;clear b2;go_wp2_with fail
            go_region_law_o (refine zbS rfl (.tmp 51) (.tmp 62) 42 rfl w.heap.size 86 i0 (.agg #[.int .u8 0,.string ByteArray.empty]) 2 24 Tryz.underlying42 hi0 hz0 hz1 hz2 rfl (by decide) _ _ _ (by simp [Act.eval]) (World.ownsRow.alloc (HO.out.below (zae 1)) _) ⟨w2.heap.size,0,none⟩ 1 1 [.int .u8 (s[k].toNat:Int),.string (s.extract q (q+n2))] (by simp [Act.eval]) rfl (zdR w2.drew _ _ _) (by simp [Value.oneCell']) (by unfold maxLen;omega) (by omega) (by simp;have:=hS2.out;omega) ?_;intro v' w3 hown' hgrow3)
            have HN:Hid (ParseIn w s n j (i+1) (acc++[⟨s[k],s.extract q (q+n2)⟩]) (q+n2) v' w3):=⟨za4 hown',HT.out,by rw [List.length_append,HR.out.len];rfl,fun p hp=>(by
             rcases List.mem_append.1 hp with h | h
             · exact HR.out.val p h
             · rw [List.mem_singleton] at h
               rw [h]
               show (s.extract q (q+n2)).size<=s.size;rw [ByteArray.size_extract]
               omega),hqn,((HB2.out.drew).alloc hS2.out _).grown hgrow3 (by simp;have:=hS2.out;omega) (fun q hq=>(World.ownsRow.lt HO.out q hq).1)⟩
            clear hown' hgrow3;go_wp2_with fail
            go_roundw
            case rel=>exact ⟨i+1,q+n2,_,by omega,by go_num,by go_num,HN.out⟩
            case measure=>simp [intOf];omega
      · have HV2:=zid (HVN.out (by rw [List.drop_eq_nil_of_le (by show s.size<=k;omega)];rfl))
        go_wp2_with fail
        go_ret2;exact zan.no HV2.out HB.out
    · obtain rfl:i=n:=by omega
      have hrun:=HV.out.2 acc k (zir HR.out.run)
      have HB:=zid HR.out.bel;rw [show s.data.toList.length=s.size from rfl] at hrun
      by_cases hk:k<s.size
      · have HV2:=zid (hrun.2.1 (by omega))
        clear hrun
        go_wp2_with fail;go_ret2;exact zan.no HV2.out HB.out
      · obtain rfl:k=s.size:=by omega
        have R0:Hid (∀v,ParseIn w s i j i acc s.size v wr->zaY wr v acc):=fun v h=>h.own.is (by have:=h.len;unfold maxLen;omega) (fun p hp=>by have:=h.val p hp;omega)
        have HIS:=zid (R0.out _ HR.out);clear R0;have R:=zhF _ acc wr HIS.out
        rcases hb:Fp.stB acc with _ | _
        · have HV2:=zid (hrun.2.2 hb)
          rw [hb] at R
          have R:=zid R;clear hrun hb;go_wp2_with fail;refine R.out.mono ?_;rintro e w2 ⟨rfl,b2⟩;have HF:=zid (zan.no HV2.out (HB.out.trans (b2.mono HS.out)));clear b2;go_wp2_with fail;go_ret2;exact HF.out
        · have HV2:=zid (hrun.1 rfl hb)
          rw [hb] at R
          have R:=zid R;clear hrun hb;go_wp2_with fail;refine R.out.mono ?_;rintro e w2 ⟨rfl,b2⟩;have HF:=zid (zan.yes HV2.out (HIS.out.below b2 (Nat.le_refl _)) (HB.out.trans (b2.mono HS.out)));clear b2;go_wp2_with fail;go_ret2;exact HF.out
theorem zcy (s:ByteArray) (w:World) (hs:s.size<=1000000000000):
 Calls Tryz.prog 12 #[.string s] w (zan w s.data.toList):=by
 rcases ht:Vp.take s.data.toList with _ | ⟨n,j⟩
 · exact zgo s w (by omega) ht
 · exact zgn s n j w hs ht
end
namespace Trm
open Go.RowKit So Dsk Rts Sto
theorem dat_read {D:Dp.Dk} {n:ByteArray}:zby D.f n= .tuple #[.string ⟨((So.dat D n).getD []).toArray⟩,.int .i64 (if Dp.get D.f n=none then 7 else 0)]:=by
 unfold zby So.dat
 rcases Dp.get D.f n with _ | f
 · rfl
 · rfl
theorem zlB {D:Dp.Dk} (h:Sm D) (n:ByteArray):((So.dat D n).getD []).length<=1000000000:=by
 unfold So.dat
 rcases hg:Dp.get D.f n with _ | f
 · simp
 · have h1:=zcr (Dp.get_mem hg).1
   have h2:=h.u
   show f.d.size<=_;omega
theorem zhq {S:St} (h:Stb S):(Lg.snapT S).length<=1000000000:=by
 unfold Lg.snapT
 split
 · simp
 · exact zlB h.d _
theorem floor_in {S:St} (hn:S.g≠[]) (h:Stb S):0<=floor S/\floor S<=1152921504606846976:=by
 unfold floor
 cases hg:S.g with
 | nil=>exact absurd hg hn
 | cons g t=>exact (h.g g (by rw [hg];exact mcs)).1
theorem zee (fa ga:Option Addr) (fn fc gn gc:Nat) (S:St) (w:World) (hf:IsL FL w (.slice fa fn fc) S.d.f) (hg:IsL Rts.SL w (.slice ga gn gc) S.g) (hn:S.g≠[]) (hB:Stb S):
 Calls Tryz.prog 25 #[zag (.slice fa fn fc) (.slice ga gn gc) S] w fun e w'=>e= .returned (.string ⟨(Lg.snapT S).toArray⟩)/\Below w.heap.size w w':=by
 have q0:=heap_alloc_new w (.cells #[.slice fa fn fc,.int .i64 S.d.c,.bool S.d.a,.int .i64 S.d.l,.bool S.d.x,.int .i64 S.v,.slice ga gn gc,.int .i64 S.x,.int .i64 S.s,.int .i64 S.z,.int .u32 S.c] 31);have qb:=(Below.refl w.heap.size w).alloc (Nat.le_refl _) (.cells #[.slice fa fn fc,.int .i64 S.d.c,.bool S.d.a,.int .i64 S.d.l,.bool S.d.x,.int .i64 S.v,.slice ga gn gc,.int .i64 S.x,.int .i64 S.s,.int .i64 S.z,.int .u32 S.c] 31);have hfl:=floor_in hn hB;have FLO:=zid fun (W:World) (h:IsL Rts.SL W (.slice ga gn gc) S.g)=>zc1 (.slice fa fn fc) (.slice ga gn gc) S W h hn;have SN:=zid fun W:World=>zcf (floor S) W (by omega);have RD:=fun (W:World) (h:IsL FL W (.slice fa fn fc) S.d.f)=>Dsk.rread_any (.slice fa fn fc) S.d ⟨(Np.nameL 116 (floor S)).toArray⟩ W h;simp only [dat_read] at RD;generalize (if Dp.get S.d.f ⟨(Np.nameL 116 (floor S)).toArray⟩=none then (7:Int) else 0)=er at RD;replace RD:=zid RD;have F0:=zid hf;have G0:=zid hg;have Q0:=zid q0;have QB:=zid qb;have HE:=zid (show floor S=0->Lg.snapT S=[] from fun h=>if_pos h);have HN:=zid (show floor S≠0->Lg.snapT S=(So.dat S.d ⟨(Np.nameL 116 (floor S)).toArray⟩).getD [] from fun h=>if_neg h);clear hf hg hn hB;unfold zag at FLO ⊢;unfold zac at RD;obtain ⟨⟨k0,k1,k2,k3,k4⟩,k5,k6,k7,k8,k9,k10⟩:=zab q0;clear q0 qb;generalize floor S=fl at*;generalize Lg.snapT S=T at*
 go_enter Tryz.func25,Tryz.ntmps25
 go_wp2_with fail;generalize World.alloc w _=w0 at k0 k1 k2 k3 k4 k5 k6 k7 k8 k9 k10 Q0 QB ⊢;refine (FLO.out _ (G0.out.keep QB.out)).mono ?_;rintro e w1 ⟨rfl,b1⟩;obtain ⟨⟨x0,x1,x2,x3,x4⟩,x5,x6,x7,x8,x9,x10⟩:=zab (hkeep Q0.out b1);have PB:=zid (QB.out.trans (b1.mono QB.out.size));have P0:=zid (hkeep Q0.out b1);clear b1 k0 k1 k2 k3 k4 k5 k6 k7 k8 k9 k10
 by_cases h0:fl=0
 · have h0':(fl==0)=true:=by simpa using h0
   have HR:=zid (HE.out h0)
   clear h0;go_wp2_with fail;go_ret;exact ⟨by rw [HR.out];rfl,PB.out⟩
 · have h0':(fl==0)=false:=by simpa using h0
   have HR:=zid (HN.out h0)
   have hb0:w.heap.size<w1.heap.size:=(Array.getElem?_eq_some_iff.1 P0.out).1;clear h0;go_upto_region 3 with (fail)
   go_region_held3 (fun W=>(∀b o,b<w1.heap.size->W.cell? ⟨b,o,none⟩=w1.cell? ⟨b,o,none⟩)/\Below w1.heap.size w1 W) (first | with_reducible assumption | with_reducible exact KW.dr _ | with_reducible exact KW.keep (by assumption) (Below.refl _ _).drew | with_reducible exact KW.keep (by assumption) (by assumption)) (first | (go_at_call 36;refine (FLO.out _ (G0.out.keep (PB.out.trans ((KW.bel (by assumption)).mono PB.out.size)))).mono ?_;rintro e w5 ⟨rfl,q5⟩;have s5:=KW.keep (by assumption) q5) | (go_at_call 37;refine (SN.out _).mono ?_;rintro e w5 ⟨rfl,q5⟩;have s5:=KW.keep (by assumption) q5) | (go_at_call 47;refine (RD.out _ (F0.out.keep (PB.out.trans ((KW.bel (by assumption)).mono PB.out.size)))).mono ?_;rintro e w5 ⟨rfl,q5⟩;have s5:=KW.keep (by assumption) q5))
   all_goals
    rename_i hh
    have LB:=zid (PB.out.trans ((KW.bel hh).mono PB.out.size));clear hh;go_wp2_with fail;go_ret;exact ⟨by rw [HR.out];rfl,LB.out⟩
def ziX (w:World) (l:List Fp.Pr) (e:Ending) (w':World):Prop:=∃a n c,e= .returned (.slice a n c)/\zaY w' (.slice a n c) l/\Below w.heap.size w w'
theorem ziX.mk {w w':World} {l:List Fp.Pr} {v:Value} (h:zaY w' v l) (hb:Below w.heap.size w w'):ziX w l (.returned v) w':=by
 obtain ⟨a,c,rfl,h⟩:=h;exact ⟨a,_,c,rfl,⟨a,c,rfl,h⟩,hb⟩
theorem zgz {w:World} {v:Value} {l:List Fp.Pr} (h:zaY w v l):∃a n c,v= .slice a n c:=by
 obtain ⟨a,c,rfl,_⟩:=h;exact ⟨a,_,c,rfl⟩
noncomputable def stN (S:St) (n:Nat):List Fp.Pr:=(List.range n).foldl (fun l (i:Nat)=>Fp.step l (zb6 S (floor S+(i:Int))).1.d) ((Fp.parse (Lg.snapT S)).getD [])
theorem zik (S:St) (n:Nat):stN S (n+1)=Fp.step (stN S n) (zb6 S (floor S+(n:Int))).1.d:=by
 unfold stN;rw [List.range_succ,List.foldl_append]
 rfl
theorem stN_st (S:St):∀n,Fp.St (stN S n)
 | 0=>by
  show Fp.St ((Fp.parse (Lg.snapT S)).getD [])
  rcases h:Fp.parse (Lg.snapT S) with _ | l
  · exact Fp.St.nil
  · exact Fp.parse_st h
 | n+1=>by
  rw [zik];exact (stN_st S n).step (zit S _).2
theorem zkV {w:World} {B:Nat} {v:Value} {l:List Fp.Pr} (h:Own w B v l) (hs:Fp.St l):zaY w v l:=
 h.is (by have:=hs.2.len;unfold maxLen;omega) fun p hp=>by have:=(hs.1 p hp).2;omega
theorem zbl (fa ga:Option Addr) (fn fc gn gc:Nat) (S:St) (o:Int) (w:World) (hf:IsL FL w (.slice fa fn fc) S.d.f) (hg:IsL Rts.SL w (.slice ga gn gc) S.g) (hn:S.g≠[]) (hB:Stb S) (ho:o<=1152921504606846976):
 Calls Tryz.prog 15 #[zag (.slice fa fn fc) (.slice ga gn gc) S,.int .i64 o] w (ziX w (Lg.stateT S o)):=by
 have q0:=heap_alloc_new w (.cells #[.slice fa fn fc,.int .i64 S.d.c,.bool S.d.a,.int .i64 S.d.l,.bool S.d.x,.int .i64 S.v,.slice ga gn gc,.int .i64 S.x,.int .i64 S.s,.int .i64 S.z,.int .u32 S.c] 31);have qb:=(Below.refl w.heap.size w).alloc (Nat.le_refl _) (.cells #[.slice fa fn fc,.int .i64 S.d.c,.bool S.d.a,.int .i64 S.d.l,.bool S.d.x,.int .i64 S.v,.slice ga gn gc,.int .i64 S.x,.int .i64 S.s,.int .i64 S.z,.int .u32 S.c] 31);have hfl:=floor_in hn hB;have hsz:=zhq hB;have SNP:=zid fun (W:World) (h1:IsL FL W (.slice fa fn fc) S.d.f) (h2:IsL Rts.SL W (.slice ga gn gc) S.g)=>zee fa ga fn fc gn gc S W h1 h2 hn hB;have FLO:=zid fun (W:World) (h:IsL Rts.SL W (.slice ga gn gc) S.g)=>zc1 (.slice fa fn fc) (.slice ga gn gc) S W h hn;have RDC:=zid fun (W:World) (k:Int) (h1:IsL FL W (.slice fa fn fc) S.d.f) (h2:IsL Rts.SL W (.slice ga gn gc) S.g)=>zeg fa ga fn fc gn gc S k W h1 h2 hB;have PRS:=zid fun (W:World)=>zcy ⟨(Lg.snapT S).toArray⟩ W (by show (Lg.snapT S).toArray.size<=_;simp;omega);have HST:=zid (stN_st S);have HSU:=zid (zik S);have HS0:=zid (show stN S 0=(Fp.parse (Lg.snapT S)).getD [] from rfl);have HEN:=zid (show Lg.stateT S o=stN S (o-floor S).toNat from rfl);have HOK:=zid (zit S);have F0:=zid hf;have G0:=zid hg;have Q0:=zid q0;have QB:=zid qb;clear hf hg hn hB hsz;unfold zag at SNP FLO RDC ⊢;obtain ⟨⟨k0,k1,k2,k3,k4⟩,k5,k6,k7,k8,k9,k10⟩:=zab q0;clear q0 qb;generalize floor S=fl at*;generalize Lg.stateT S o=T at*
 go_enter Tryz.func15,Tryz.ntmps15
 go_wp2_with fail;generalize World.alloc w _=w0 at k0 k1 k2 k3 k4 k5 k6 k7 k8 k9 k10 Q0 QB ⊢;refine (SNP.out _ (F0.out.keep QB.out) (G0.out.keep QB.out)).mono ?_;rintro e w1 ⟨rfl,b1⟩;have P1:=zid (hkeep Q0.out b1);have PB1:=zid (QB.out.trans (b1.mono QB.out.size));clear b1 k0 k1 k2 k3 k4 k5 k6 k7 k8 k9 k10;go_wp2_with fail;refine (PRS.out _).mono ?_;rintro e w2 ⟨v2,rfl,hv2,b2⟩;obtain ⟨a2,n2,c2,rfl⟩:=zgz hv2;have HV2:=zid (show zaY w2 (.slice a2 n2 c2) (stN S 0) from by rw [HS0.out];exact hv2);obtain ⟨⟨x0,x1,x2,x3,x4⟩,x5,x6,x7,x8,x9,x10⟩:=zab (hkeep P1.out b2);have P2:=zid (hkeep P1.out b2);have PB2:=zid (PB1.out.trans (b2.mono PB1.out.size));clear b2 hv2;go_wp2_with fail;refine (FLO.out _ (G0.out.keep PB2.out)).mono ?_;rintro e w3 ⟨rfl,b3⟩;have P3:=zid (hkeep P2.out b3);have PB3:=zid (PB2.out.trans (b3.mono PB2.out.size));have HV3:=zid (HV2.out.below b3 (Nat.le_refl _));clear b3 x0 x1 x2 x3 x4 x5 x6 x7 x8 x9 x10;go_wp2_with fail
 go_loopw [5,7] (fun v i wr=>∃(a:Option Addr) (n c j:Nat),v= .slice a n c/\i= .int .i64 (fl+(j:Int))/\(j=0\/fl+(j:Int)<=o)/\Hid (zaY wr (.slice a n c) (stN S j))/\wr.heap[w.heap.size]?=some (.cells #[.slice fa fn fc,.int .i64 S.d.c,.bool S.d.a,.int .i64 S.d.l,.bool S.d.x,.int .i64 S.v,.slice ga gn gc,.int .i64 S.x,.int .i64 S.s,.int .i64 S.z,.int .u32 S.c] 31 (0,0))/\Below w.heap.size w wr) (fun _ i _=>(o-intOf i).toNat)
 case atStart=>exact ⟨a2,n2,c2,0,rfl,by simp,.inl rfl,HV3,P3.out,PB3.out⟩
 case round=>
  obtain ⟨a,n,c,j,rfl,rfl,hj,HV,q0,hbw⟩:=hrel;obtain ⟨⟨k0,k1,k2,k3,k4⟩,k5,k6,k7,k8,k9,k10⟩:=zab q0;have P0:=zid q0;have PB:=zid hbw
  by_cases hlt:fl+(j:Int)<o
  · have RD:=RDC.out wr (fl+(j:Int)) (F0.out.keep hbw) (G0.out.keep hbw)
    have hok:=(HOK.out (fl+(j:Int))).2
    have HS2:=HSU.out j;obtain ⟨⟨⟨xa,xt,xd⟩,er⟩,hR⟩:∃R,zb6 S (fl+(j:Int))=R:=⟨_,rfl⟩;rw [hR] at RD hok HS2;unfold RdVal zbm at RD;dsimp only at RD hok HS2;replace RD:=zid RD;have HS3:=zid HS2;clear hR HS2 q0 hbw;go_wp2_with fail;refine RD.out.mono ?_;rintro e w4 ⟨rfl,b4⟩;have A4:=(Below.refl w4.heap.size w4).alloc (Nat.le_refl _) (.cells #[.int .i64 xa,.int .i64 xt,.string xd] 46);obtain ⟨y0,y1,y2⟩:=cells3 (heap_alloc_new w4 (.cells #[.int .i64 xa,.int .i64 xt,.string xd] 46));have b24:=b4.trans (A4.mono b4.size);have P4:=zid (hkeep P0.out b24);have PB4:=zid (PB.out.trans (b24.mono PB.out.size));have HV4:=zid (HV.out.below b24 (Nat.le_refl _));have ST:=zid (fun (W:World) (h:zaY W (.slice a n c) (stN S j))=>zgh (.slice a n c) (stN S j) xd W h (HST.out j).2);clear b4 A4 b24 RD k0 k1 k2 k3 k4 k5 k6 k7 k8 k9 k10;go_wp2_with fail;refine (ST.out _ HV4.out).mono ?_;rintro e w5 ⟨v5,rfl,ho5,b5⟩;have hv5:=zkV ho5 (by rw [<-HS3.out];exact HST.out (j+1));rw [<-HS3.out] at hv5;obtain ⟨a5,n5,c5,rfl⟩:=zgz hv5;have HV5:=zid hv5;have P5:=zid (hkeep P4.out b5);have PB5:=zid (PB4.out.trans (b5.mono PB4.out.size));clear hv5 ho5 b5 y0 y1 y2;go_wp2_with fail
    go_roundw
    case rel=>exact ⟨a5,n5,c5,j+1,rfl,by go_num,.inr (by omega),HV5,P5.out,PB5.out⟩
    case measure=>simp [intOf];omega
  · have hk:(o-fl).toNat=j:=by omega
    have HF:=zid (ziX.mk (l:=T) (by rw [HEN.out,hk];exact HV.out) PB.out)
    clear q0 hbw k0 k1 k2 k3 k4 k5 k6 k7 k8 k9 k10;go_wp2_with fail;go_ret;exact HF.out
end Trm
end Go.Proofs.YtgmppfpllogdcaaGreat

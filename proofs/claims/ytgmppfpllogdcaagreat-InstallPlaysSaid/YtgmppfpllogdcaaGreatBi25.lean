/-
  Parts of what the laws of this seat stand on:RecGet,RecGetC,RecOpen,RecOwn,FrameRnext,SegRef,RoSeg,StoSml.
-/
import Derived.Test.YtgmppfpllogdcaaGreatBi1
import Derived.BigQuiet
import Derived.ChangeArms
import Derived.Deep.RegionHeld
import Derived.Deep.RegionHeld3
import Derived.Deep.RegionLaw
import Derived.Deep.Slices
import Derived.Deep.Strs
import Derived.IntWalk
import Derived.Laws.AppendOwnNone
import Derived.Laws.StructEq
import Derived.Lib.Builder
import Derived.Lib.SliceRun
import Derived.Lib.SmallJoins
import Derived.Lib.Strings
import Derived.LoopIn
import Derived.LoopNIn
import Derived.Maps.AppendAt
import Derived.OrdersIn
import Derived.Outline
import Derived.OwnWalkIn
import Derived.RangeFuncBound
import Derived.RangeFuncBox
import Derived.RangeFuncCalls
import Derived.RangeFuncLeaves
import Derived.RangeFuncNested
import Derived.Shelf.Abstract
import Derived.Shelf.RegionOpen
import Derived.Shelf.RegionOpenPlain
import Derived.TacticsInMore
import Derived.Test.YtgmppfpllogdcaaGreatBi12
import Derived.Test.YtgmppfpllogdcaaGreatBi13
import Derived.Test.YtgmppfpllogdcaaGreatBi14
import Derived.Test.YtgmppfpllogdcaaGreatBi16
import Derived.Test.YtgmppfpllogdcaaGreatBi21
import Derived.Test.YtgmppfpllogdcaaGreatBi24
import Derived.Test.YtgmppfpllogdcaaGreatBi3
import Derived.Test.YtgmppfpllogdcaaGreatBi7
import Derived.WalkKit
set_option maxRecDepth 100000
set_option maxHeartbeats 6400000
namespace Go.Proofs.YtgmppfpllogdcaaGreat
section
open Go.RowKit
def zdS (l:List UInt8):Value:= .tuple #[zbm (Rp.get l).1,.int .i64 (Rp.get l).2]
theorem zdw {l:List UInt8} {e:Int} (h:Rp.get l=(Rp.zero,e)):zdS l= .tuple #[.agg #[.int .i64 0,.int .i64 0,.string ⟨#[]⟩],.int .i64 e]:=by
 unfold zdS;rw [h]
 rfl
theorem zfa {l:List UInt8} {r:Rp.Rec} (h:Rp.get l=(r,0)):zdS l= .tuple #[zbm r,.int .i64 0]:=by
 unfold zdS;rw [h]
theorem zkz (s:ByteArray) (w:World) (hs:s.size<=9223372036854775807) (ht:Vp.take s.data.toList=none):
 Calls Tryz.prog 135 #[.string s] w fun e w'=>e= .returned (zdS s.data.toList)/\Below w.heap.size w w':=by
 have C:=fun W:World=>rread_any s 0 W hs;rw [show rdAt s 0= .tuple #[.int .i64 0,.int .i64 0,.bool false] from za0 0 ht] at C;have C:=zid C;have HV:=zid (zdw (Rp.get_none ht));clear ht
 go_enter Tryz.func135,Tryz.ntmps135
 go_wp2_with fail;refine (C.out _).mono ?_;rintro e w1 ⟨rfl,b1⟩;obtain ⟨hc,hf⟩:=bcell b1;go_wp2_with fail;have hb:Below w.heap.size w w1:=zap b1
 exact bodyPost_ret (v:= .tuple #[.agg #[.int .i64 0,.int .i64 0,.string ⟨#[]⟩],.int .i64 3]) (by simp [results,Tryz.results135,go_sem,hc]) rfl
  ⟨by rw [HV.out],((hb.setCell (p:=⟨w.heap.size,0,none⟩) (Nat.le_refl _) _).setCell (p:=⟨w.heap.size,1,none⟩) (Nat.le_refl _) _).setCell (p:=⟨w.heap.size,2,none⟩) (Nat.le_refl _) _⟩
theorem zkA (s:ByteArray) (w:World) (hs:s.size<=9223372036854775807) (n j:Nat) (ht:Vp.take s.data.toList=some (n,j)) (ht2:Vp.take (s.data.toList.drop j)=none):
 Calls Tryz.prog 135 #[.string s] w fun e w'=>e= .returned (zdS s.data.toList)/\Below w.heap.size w w':=by
 have C:=fun W:World=>rread_any s ((0:Nat):Int) W hs;rw [zbf (k:=0) ht (Nat.zero_add j)] at C;have C:∀W:World,Calls Tryz.prog 38 #[.string s,.int .i64 0] W fun e w'=>e= .returned (.tuple #[.int .i64 (n:Int),.int .i64 (j:Int),.bool true])/\Below W.heap.size W w':=C;have C:=zid C;have D:=fun W:World=>rread_any s (j:Int) W hs;rw [zcj ht2] at D;have D:=zid D;have HV:=zid (zdw (Rp.get_half ht ht2));clear ht ht2
 go_enter Tryz.func135,Tryz.ntmps135
 go_wp2_with fail;refine (C.out _).mono ?_;rintro e w1 ⟨rfl,b1⟩;go_wp2_with fail;refine (D.out _).mono ?_;rintro e w2 ⟨rfl,b2⟩;have b12:=zah b1 b2;obtain ⟨hc,hf⟩:=bcell b12;go_wp2_with fail;have hb:Below w.heap.size w w2:=zap b12
 exact bodyPost_ret (v:= .tuple #[.agg #[.int .i64 0,.int .i64 0,.string ⟨#[]⟩],.int .i64 3]) (by simp [results,Tryz.results135,go_sem,hc]) rfl
  ⟨by rw [HV.out],((hb.setCell (p:=⟨w.heap.size,0,none⟩) (Nat.le_refl _) _).setCell (p:=⟨w.heap.size,1,none⟩) (Nat.le_refl _) _).setCell (p:=⟨w.heap.size,2,none⟩) (Nat.le_refl _) _⟩
theorem zjo (s:ByteArray) (w:World) (hs:s.size<=9223372036854775807) (n j m k:Nat) (ht:Vp.take s.data.toList=some (n,j)) (ht2:Vp.take (s.data.toList.drop j)=some (m,k)):
 Calls Tryz.prog 135 #[.string s] w fun e w'=>e= .returned (zdS s.data.toList)/\Below w.heap.size w w':=by
 have C:=fun W:World=>rread_any s ((0:Nat):Int) W hs;rw [zbf (k:=0) ht (Nat.zero_add j)] at C;have C:∀W:World,Calls Tryz.prog 38 #[.string s,.int .i64 0] W fun e w'=>e= .returned (.tuple #[.int .i64 (n:Int),.int .i64 (j:Int),.bool true])/\Below W.heap.size W w':=C;have C:=zid C;obtain ⟨q,hq⟩:∃q,j+k=q:=⟨_,rfl⟩;have D:=fun W:World=>rread_any s (j:Int) W hs;rw [zbf ht2 hq] at D;have D:=zid D;have hjl:=(Vp.take_some ht).2.2.1;have hkl:=(Vp.take_some ht2).2.2.1;rw [List.length_drop] at hkl;rw [show s.data.toList.length=s.size from rfl] at hjl hkl
 have q0:(0:Int)<=(q:Int):=by omega
 have q1:(q:Int)<=(s.size:Int):=by omega
 have E:=fun W:World=>zj0 ⟨(n:Int),(m:Int),s.extract q s.size⟩ W (by show (s.extract q s.size).size<=_;rw [ByteArray.size_extract];omega);have hG:= @Rp.get_bad s.data.toList n j m k ht ht2;have hY:= @Rp.get_yes s.data.toList n j m k ht ht2;rw [hq,ext_drop] at hG hY;clear ht ht2 hq hjl hkl;unfold zbm at E;dsimp only at E
 rcases Rp.fault_cases ⟨(n:Int),(m:Int),s.extract q s.size⟩ with ⟨hf0,_⟩ | ⟨_,hf0⟩
 · have HV:=zid (zfa (hY hf0))
   rw [hf0] at E
   have E:=zid E;clear hf0 hG hY
   go_enter Tryz.func135,Tryz.ntmps135
   go_wp2_with fail;refine (C.out _).mono ?_;rintro e w1 ⟨rfl,b1⟩;go_wp2_with fail;refine (D.out _).mono ?_;rintro e w2 ⟨rfl,b2⟩;have b12:=zah b1 b2;go_wp2_with fail;refine (E.out _).mono ?_;rintro e w3 ⟨rfl,b3⟩;obtain ⟨x0,x1,x2,b23⟩:=zdA (zfN w2 _ _ _ _) b3;have b123:=zah b12 b23;obtain ⟨hc,hf⟩:=bcell b123;go_wp2_with fail;have hb:Below w.heap.size w w3:=zap b123
   exact bodyPost_ret (v:= .tuple #[.agg #[.int .i64 (n:Int),.int .i64 (m:Int),.string (s.extract q s.size)],.int .i64 0]) (by simp [results,Tryz.results135,go_sem,hc]) rfl
    ⟨by rw [HV.out];rfl,((hb.setCell (p:=⟨w.heap.size,0,none⟩) (Nat.le_refl _) _).setCell (p:=⟨w.heap.size,1,none⟩) (Nat.le_refl _) _).setCell (p:=⟨w.heap.size,2,none⟩) (Nat.le_refl _) _⟩
 · obtain ⟨e0,he0⟩:∃e0,Rp.fault ⟨(n:Int),(m:Int),s.extract q s.size⟩=e0:=⟨_,rfl⟩
   rw [he0] at E hf0 hG
   have HV:=zid (zdw (hG (by omega)));have E:=zid E;clear hG hY he0
   rcases hf0 with rfl | rfl
   all_goals
    go_enter Tryz.func135,Tryz.ntmps135
    go_wp2_with fail;refine (C.out _).mono ?_;rintro e w1 ⟨rfl,b1⟩;go_wp2_with fail;refine (D.out _).mono ?_;rintro e w2 ⟨rfl,b2⟩;have b12:=zah b1 b2;go_wp2_with fail;refine (E.out _).mono ?_;rintro e w3 ⟨rfl,b3⟩;have b123:=zah b12 (zap b3);obtain ⟨hc,hf⟩:=bcell b123;go_wp2_with fail;have hb:Below w.heap.size w w3:=zap b123
    refine bodyPost_ret (v:= .tuple #[.agg #[.int .i64 0,.int .i64 0,.string ⟨#[]⟩],.int .i64 _]) (by simp [results,Tryz.results135,go_sem,hc];rfl) rfl
     ⟨by rw [HV.out],((hb.setCell (p:=⟨w.heap.size,0,none⟩) (Nat.le_refl _) _).setCell (p:=⟨w.heap.size,1,none⟩) (Nat.le_refl _) _).setCell (p:=⟨w.heap.size,2,none⟩) (Nat.le_refl _) _⟩
theorem rget_any (s:ByteArray) (w:World) (hs:s.size<=9223372036854775807):
 Calls Tryz.prog 135 #[.string s] w fun e w'=>e= .returned (zdS s.data.toList)/\Below w.heap.size w w':=by
 rcases ht:Vp.take s.data.toList with _ | ⟨n,j⟩
 · exact zkz s w hs ht
 rcases ht2:Vp.take (s.data.toList.drop j) with _ | ⟨m,k⟩
 · exact zkA s w hs n j ht ht2
 · exact zjo s w hs n j m k ht ht2
end
section
open Go.RowKit Go.ChangeShapes Go.WideShapes Go.Deep Go.Joins
def zbL (w:World) (v:Value) (rs:List Rp.Rec):Prop:=
 ∃a cap,v= .slice a rs.length cap/\rs.length<=maxLen/\(∀r∈rs,RecOk r)/\
  (rs=[]\/ ∃b off,a=some ⟨b,off,none⟩/\∀i,i<rs.length->
   w.cell? ⟨b,off+i*3,none⟩=some (.int .i64 (rs.getD i Rp.zero).a)/\w.cell? ⟨b,off+i*3+1,none⟩=some (.int .i64 (rs.getD i Rp.zero).t)/\w.cell? ⟨b,off+i*3+2,none⟩=some (.string (rs.getD i Rp.zero).d))
theorem zbL.nil (w:World) (a:Option Addr) (cap:Nat):zbL w (.slice a 0 cap) []:=⟨a,cap,rfl,by simp,by simp,.inl rfl⟩
section
variable {H:Type} {enc:TypeId×Value->H} {w:World} {base:Nat} {spare:Nat->Bool} {held:Bool}
theorem zha (b off j:Nat):(⟨b,off,none⟩:Addr).add j=⟨b,off+j,none⟩:=by
 unfold Addr.add
 split<;>simp_all
end
section
variable {H:Type} {enc:TypeId×Value->H} {w:World} {base:Nat} {spare:Nat->Bool} {held:Bool}
end
end
section
open Go.RowKit
def zbj (rs:List Rp.Rec):List Value:=rs.flatMap fun r=>[.int .i64 r.a,.int .i64 r.t,.string r.d]
theorem zhJ (rs:List Rp.Rec):(zbj rs).length=rs.length*3:=by
 induction rs with
 | nil=>rfl
 | cons r rs ih=>simp [zbj] at ih ⊢;omega
theorem zgw (rs:List Rp.Rec) (r:Rp.Rec):zbj (rs++[r])=zbj rs++[.int .i64 r.a,.int .i64 r.t,.string r.d]:=by simp [zbj]
theorem zhK (rs:List Rp.Rec):∀i,i<rs.length->(zbj rs)[i*3]?=some (.int .i64 (rs.getD i Rp.zero).a)/\(zbj rs)[i*3+1]?=some (.int .i64 (rs.getD i Rp.zero).t)/\(zbj rs)[i*3+2]?=some (.string (rs.getD i Rp.zero).d):=by
 induction rs with
 | nil=>intro i hi;simp at hi
 | cons r rs ih=>
  intro i hi;have e:zbj (r::rs)= .int .i64 r.a:: .int .i64 r.t:: .string r.d::zbj rs:=rfl;rw [e]
  cases i with
  | zero=>exact ⟨rfl,rfl,rfl⟩
  | succ i=>
   have h:=ih i (by simpa using hi);rw [show (i+1)*3=i*3+3 from by omega]
   simpa using h
theorem info_rec:(Tryz.prog.info? 46).map (fun i=>(i.zero,i.size,i.bytes))=some (some (.agg #[.int .i64 0,.int .i64 0,.string ByteArray.empty]),3,32):=by kernel_rfl
theorem RecOk.of {r:Rp.Rec} (h:Rp.Ok r):RecOk r:=⟨by have:=h.1;omega,by have:=h.2.1;omega,by have:=h.2.2.1;omega,by have:=h.2.2.2.1;omega,by have:=h.2.2.2.2;omega⟩
theorem zbL.own_ok {w:World} {base n:Nat} {v:Value} {rs:List Rp.Rec} (h:w.ownsRow base 46 3 v n (zbj rs)) (hm:n<=maxLen) (hb:∀r∈rs,RecOk r):zbL w v rs:=by
 have hn:n=rs.length:=by have:=h.1;rw [zhJ] at this;omega
 subst hn
 rcases h.2 with ⟨rfl,h0⟩ | ⟨g,cap,cur,rfl,h1⟩
 · have:rs=[]:=by simpa using h0
   subst this
   exact zbL.nil w none 0
 · refine ⟨some ⟨g,0,none⟩,cap,rfl,hm,hb,.inr ⟨g,0,rfl,fun i hi=>?_⟩⟩
   obtain ⟨c0,c1,c2⟩:=zhK rs i hi
   have k0:=h.cells (g:=g) rfl _ _ c0;have k1:=h.cells (g:=g) rfl _ _ c1;have k2:=h.cells (g:=g) rfl _ _ c2;rw [zha] at k0 k1 k2;exact ⟨k0,k1,k2⟩
theorem zbL.own {w:World} {base n:Nat} {v:Value} {rs:List Rp.Rec} (h:w.ownsRow base 46 3 v n (zbj rs)) (hm:n<=maxLen) (hb:∀r∈rs,Rp.Ok r):zbL w v rs:=zbL.own_ok h hm fun r hr=>RecOk.of (hb r hr)
theorem news_two (w:World) (o:Obj) (a b c:Value) (T:TypeId):∀(j:Nat) (u:Value),[a,b,c][j]?=some u->((w.alloc o).alloc (.cells #[a,b,c] T)).cell? ((⟨w.heap.size+1,0,none⟩:Addr).add j)=some u:=by
 intro j u h
 have hh:((w.alloc o).alloc (.cells #[a,b,c] T)).heap[w.heap.size+1]?=some (.cells #[a,b,c] T (0,0)):=by
  have:=heap_alloc_new (w.alloc o) (.cells #[a,b,c] T)
  simpa using this
 rw [zha,Lib.cell_of_heap hh]
 simpa using h
theorem zkC (s:ByteArray) (k:Nat) (w:World) (hs:s.size<=140737488351232) (hk:k<s.size):
 Calls Tryz.prog 84 #[.string s,.int .i64 k] w fun e w'=>e= .returned (zhQ s k)/\Below w.heap.size w w':=by
 have hk0:decide ((k:Int)<0)=false:=by simp
 have hk1:decide ((s.size:Int)<=(k:Int))=false:=by simp;omega
 have C:=zid fun W:World=>zkD s k W (by unfold maxLen;omega) (by omega);have D:=zid fun W:World=>rread_any s (k:Int) W (by omega)
 have hL:(s.data.toList.drop k).length=s.size-k:=by rw [List.length_drop];rfl
 have HL:=zid hL;clear hL
 by_cases hc:Fr.cutB (s.data.toList.drop k)=true
 · rw [hc] at C
   have HV:=zid (zb2 (Fr.nx_cut hc) (by omega))
   clear hc
   go_enter Tryz.func84,Tryz.ntmps84
   go_wp2_with fail;refine (C.out _).mono ?_;rintro e w' ⟨rfl,rfl⟩;go_wp2_with fail;go_ret3;exact ⟨by rw [HV.out];rfl,Below.refl _ _⟩
 have hc:Fr.cutB (s.data.toList.drop k)=false:=by simpa using hc
 rw [hc] at C
 have e0:rdAt s (k:Int)=zeL (s.data.toList.drop k) k:=by unfold rdAt;rw [if_neg (by omega)];simp
 rw [e0] at D;clear e0
 rcases ht:Vp.take (s.data.toList.drop k) with _ | ⟨m,j⟩
 · rw [za0 k ht] at D
   have HV:=zid (zb2 (Fr.nx_none hc ht) (by omega))
   clear hc ht
   go_enter Tryz.func84,Tryz.ntmps84
   go_wp2_with fail;refine (C.out _).mono ?_;rintro e w' ⟨rfl,rfl⟩;go_wp2_with fail;refine (D.out _).mono ?_;rintro e w1 ⟨rfl,b1⟩;go_wp2_with fail;go_ret3;exact ⟨by rw [HV.out];rfl,b1⟩
 rw [zci k ht] at D;obtain ⟨hj0,hj9,hjl,hm63⟩:=Vp.take_some ht;rw [HL.out] at hjl;obtain ⟨q,hq⟩:∃q,k+j=q:=⟨_,rfl⟩
 have hq1:k<=q:=by omega
 have hq2:q<=s.size:=by omega
 rw [show (k:Int)+(j:Int)=(q:Int) from by omega] at D;have HQ:=zid hq;have HT:=zid ht;have HJ:=zid (show j=q-k by omega);clear hq hc ht
 by_cases hm:Fr.May m
 · have hm1:1<=(m:Int):=by have:=hm.1;omega
   have hm2:(m:Int)<=65536:=by have:=hm.2;omega
   have d1:decide ((m:Int)<1)=false:=by simp;omega
   have d2:decide (65536<(m:Int))=false:=by simp;omega
   have HM:=zid hm;clear hm
   by_cases hl:(s.size:Int)-(q:Int)<4+(m:Int)
   · have HV:=zid (zb2 (Fr.nx_short HT.out HM.out (by rw [HL.out];have:=HQ.out;omega)) (by omega))
     clear hjl hj0 hj9
     go_enter Tryz.func84,Tryz.ntmps84
     go_wp2_with fail;refine (C.out _).mono ?_;rintro e w' ⟨rfl,rfl⟩;go_wp2_with fail;refine (D.out _).mono ?_;rintro e w1 ⟨rfl,b1⟩;go_wp2_with fail;go_ret3;exact ⟨by rw [HV.out];rfl,b1⟩
   · have hl':q+4+m<=s.size:=by omega
     have HNL:Hid (¬(s.data.toList.drop k).length<j+4+m):=zid (by rw [HL.out];have:=HQ.out;omega)
     have hl2:4+(m:Int)<=(s.size:Int)-(q:Int):=by omega
     clear hl hjl hj0 hj9
     go_enter Tryz.func84,Tryz.ntmps84
     go_wp2_with fail;refine (C.out _).mono ?_;rintro e w' ⟨rfl,rfl⟩;go_wp2_with fail;refine (D.out _).mono ?_;rintro e w1 ⟨rfl,b1⟩;go_wp2_with fail;obtain ⟨B,hB⟩:∃B,s.extract (q+4) (q+4+m)=B:=⟨_,rfl⟩
     have hBs:B.size=m:=by rw [<-hB,ByteArray.size_extract];omega
     rw [hB];have HB:=zid hB;have F:=zid fun W:World=>zen B W (by rw [hBs];exact HM.out);clear hB hBs;have hFl:=Fr.fr_len B.data.toList;obtain ⟨f,hf⟩:∃f,Fr.fr B.data.toList=f:=⟨_,rfl⟩;rw [hf] at F;have HF:=zid hf;clear hf hFl;refine (F.out _).mono ?_;rintro e w2 ⟨rfl,b2⟩
     have e2:B.data.toList=((s.data.toList.drop k).drop (j+4)).take m:=by
      rw [<-HB.out,zd6,List.drop_drop,show k+(j+4)=q+4 from by have:=HQ.out;omega,show q+4+m-(q+4)=m from by omega]
     have e3:(s.extract k (q+4+m)).data.toList=(s.data.toList.drop k).take (j+4+m):=by
      rw [zd6,show q+4+m-k=j+4+m from by have:=HQ.out;omega]
     have hsum:=Fr.sum_iff HT.out HNL.out;rw [<-e2,HF.out, <-e3] at hsum
     by_cases heq:f=(s.extract k (q+4+m)).data.toList
     · have HV:=zdt (Fr.nx_ok HT.out HM.out HNL.out (by rw [<-e2];exact hsum.2 heq))
       rw [<-e2,show k+(j+4+m)=q+4+m from by have:=HQ.out;omega] at HV
       have HV:=zid HV
       have hd:(!f==(s.extract k (q+4+m)).toList)=false:=by rw [Lib.toList_data,heq];simp
       clear hsum e2 e3 heq;go_wp2_with fail;go_ret3;refine ⟨?_,zah b1 b2⟩;rw [HV.out]
       rfl
     · have HV:=zid (zb2 (Fr.nx_sum HT.out HM.out HNL.out (by rw [<-e2];exact fun hh=>heq (hsum.1 hh))) (by omega))
       have hd:(!f==(s.extract k (q+4+m)).toList)=true:=by rw [Lib.toList_data];simpa using heq
       clear hsum e2 e3 heq;go_wp2_with fail;go_ret3;refine ⟨?_,zah b1 b2⟩;rw [HV.out]
       rfl
 · have HV:=zid (zb2 (Fr.nx_form HT.out hm) (by omega))
   have hm':m<1\/65536<m:=by unfold Fr.May at hm;omega
   clear hm hjl hj0 hj9
   rcases hm' with h1 | h1
   · have h2:(m:Int)<1:=by omega
     clear h1
     go_enter Tryz.func84,Tryz.ntmps84
     go_wp2_with fail;refine (C.out _).mono ?_;rintro e w' ⟨rfl,rfl⟩;go_wp2_with fail;refine (D.out _).mono ?_;rintro e w1 ⟨rfl,b1⟩;go_wp2_with fail;go_ret3;exact ⟨by rw [HV.out];rfl,b1⟩
   · have h2:(65536:Int)<(m:Int):=by omega
     have h3:decide ((m:Int)<1)=false:=by simp;omega
     clear h1
     go_enter Tryz.func84,Tryz.ntmps84
     go_wp2_with fail;refine (C.out _).mono ?_;rintro e w' ⟨rfl,rfl⟩;go_wp2_with fail;refine (D.out _).mono ?_;rintro e w1 ⟨rfl,b1⟩;go_wp2_with fail;go_ret3;exact ⟨by rw [HV.out];rfl,b1⟩
theorem zc0 (s:ByteArray) (i:Int) (w:World) (hs:s.size<=140737488351232):
 Calls Tryz.prog 84 #[.string s,.int .i64 i] w fun e w'=>e= .returned (nxAt s i)/\Below w.heap.size w w':=by
 by_cases h:i<0\/(s.size:Int)<=i
 · rw [nxAt_out h]
   exact (zjr s i w h).mono fun _ _ ⟨he,hw⟩=>⟨he,by rw [<-hw];exact Below.refl _ _⟩
 · obtain ⟨k,rfl⟩:∃k:Nat,i=(k:Int):=⟨i.toNat,by omega⟩
   rw [zeq]
   exact zkC s k w hs (by omega)
def NL:Lay Nat where
 enc:=fun n=>[.int .i64 (n:Int)]
 k:=1
 len:=fun _=>rfl
 one:=by intro f u hu;rw [List.mem_singleton] at hu;subst hu;rfl
 pos:=by decide
 T:=3
 ok:=fun n=>n<=9223372036854775807
 z:=0
theorem info_int:(Tryz.prog.info? 3).map (fun i=>(i.zero,i.size,i.bytes))=some (some (.int .i64 0),1,8):=by kernel_rfl
theorem ze0 {w:World} {B B':Nat} {e e':TypeId} {k k' n n':Nat} {v v':Value} {xs xs':List Value} (h:w.ownsRow B e k v n xs) (h':w.ownsRow B' e' k' v' n' xs') (he:e≠e'):v.ownBlock=none\/v.ownBlock≠v'.ownBlock:=by
 rcases h.2 with ⟨rfl,_⟩ | ⟨g,cap,cur,rfl,_,hg,_⟩
 · exact .inl rfl
 · refine .inr fun e0=>?_
   rcases h'.2 with ⟨rfl,_⟩ | ⟨g',cap',cur',rfl,_,hg',_⟩
   · cases e0
   · simp [Value.ownBlock] at e0
     subst e0
     rw [hg] at hg'
     injection hg' with hg'
     injection hg' with _ e1
     exact he e1
theorem own_slice {w:World} {B:Nat} {e:TypeId} {k n:Nat} {v:Value} {xs:List Value} (h:w.ownsRow B e k v n xs):∃a c,v= .slice a n c:=by
 rcases h.2 with ⟨rfl,rfl⟩ | ⟨g,cap,cur,rfl,_⟩
 · exact ⟨none,0,rfl⟩
 · exact ⟨_,_,rfl⟩
theorem ziG {α β:Type} (f:α->β) (l:List α) (x:α):(l++[x]).map f=l.map f++[f x]:=by simp
def zbJ (w:World) (F:List (Rp.Rec×Nat)×Nat×Int) (e:Ending) (w':World):Prop:=
 ∃v vp,e= .returned (.tuple #[v,vp,.int .i64 (F.2.1:Nat),.int .i64 F.2.2])/\zbL w' v (F.1.map Prod.fst)/\IsL NL w' vp (F.1.map Prod.snd)/\Below w.heap.size w w'
theorem zbJ.mk {w w':World} {F:List (Rp.Rec×Nat)×Nat×Int} {ps:List (Rp.Rec×Nat)} {k:Nat} {er:Int} {v vp:Value} (h:F=(ps,k,er)) (hv:zbL w' v (ps.map Prod.fst)) (hp:IsL NL w' vp (ps.map Prod.snd)) (hb:Below w.heap.size w w'):
 zbJ w F (.returned (.tuple #[v,vp,.int .i64 (k:Int),.int .i64 er])) w':=by
 subst h;exact ⟨v,vp,rfl,hv,hp,hb⟩
theorem zc2 {w wr:World} {l:List UInt8} {b:Int} {ps:List (Rp.Rec×Nat)} {k:Nat} {v vp:Value} {B:Nat} (hk:k<=4398046511104) (hg:Gp.Good l b 0 ps k)
 (h1:wr.ownsRow B 46 3 v ps.length (zbj (ps.map Prod.fst))) (h2:wr.ownsRow B 3 1 vp ps.length (NL.vals (ps.map Prod.snd))) {F:List (Rp.Rec×Nat)×Nat×Int} {er:Int} (hF:F=(ps,k,er)) (hb:Below w.heap.size w wr):
 zbJ w F (.returned (.tuple #[v,vp,.int .i64 (k:Int),.int .i64 er])) wr:=by
 have hf:=hg.few;refine zbJ.mk hF (zbL.own h1 (by unfold maxLen;omega) fun r hr=>?_) ?_ hb
 · rw [List.mem_map] at hr
   obtain ⟨p,hp,rfl⟩:=hr
   exact hg.ok p hp
 · have h3:OwnL NL wr B vp (ps.map Prod.snd):=by
    unfold OwnL;rw [List.length_map];exact h2
   refine h3.is (by rw [List.length_map];unfold maxLen;omega) fun n hn=>?_;rw [List.mem_map] at hn;obtain ⟨p,hp,rfl⟩:=hn;obtain ⟨i,hi,rfl⟩:=List.getElem_of_mem hp;have:=(hg.lo i hi).2;show _<=9223372036854775807;omega
theorem zhz (s:ByteArray) (base:Int) (w:World) (h:base<0\/1099511627776<base) (h1: -9223372036854775808<=base) (h2:base<=9223372036854775807):
 Calls Tryz.prog 106 #[.string s,.int .i64 base] w (zbJ w (Gp.full s.data.toList base)):=by
 have HF:=zid (zbJ.mk (w:=w) (Gp.full_out (l:=s.data.toList) (Rp.inB_no h)) (zbL.nil w none 0) (IsL.nil (Y:=NL) w none 0) (Below.refl _ w))
 rcases h with h | h
 · go_enter Tryz.func106,Tryz.ntmps106
   go_wp2_with fail
   refine bodyPost_ret (v:= .tuple #[.slice none 0 0,.slice none 0 0,.int .i64 0,.int .i64 1]) (by simp [results,Tryz.results106,go_sem]) rfl ?_;exact HF.out
 · have e1:decide (base<0)=false:=by simp;omega
   go_enter Tryz.func106,Tryz.ntmps106
   go_wp2_with fail;refine bodyPost_ret (v:= .tuple #[.slice none 0 0,.slice none 0 0,.int .i64 0,.int .i64 1]) (by simp [results,Tryz.results106,go_sem]) rfl ?_;exact HF.out
theorem zjj (s:ByteArray) (base:Int) (w:World) (hs:s.size<=4398046511104) (hb0:0<=base) (hb1:base<=1099511627776):
 Calls Tryz.prog 106 #[.string s,.int .i64 base] w (zbJ w (Gp.full s.data.toList base)):=by
 have HL:=zid (show s.data.toList.length=s.size from rfl);have HFU:=zid (Gp.full_in (l:=s.data.toList) (Rp.inB_mk hb0 hb1));obtain ⟨i0,hi,hz0,hz1,hz2⟩:=info_parts info_rec;obtain ⟨i1,hj,hy0,hy1,hy2⟩:=info_parts info_int
 have e1:decide (base<0)=false:=by simp;omega
 have e2:decide ((1099511627776:Int)<base)=false:=by simp;omega
 go_enter Tryz.func106,Tryz.ntmps106
 go_wp2_with fail;clear e1 e2
 go_loopw [8,9,10] (fun v vp a wr=>∃(ps:List (Rp.Rec×Nat)) (k:Nat),k<=s.size/\a= .int .i64 k/\wr.ownsRow w.heap.size 46 3 v ps.length (zbj (ps.map Prod.fst))/\wr.ownsRow w.heap.size 3 1 vp ps.length (NL.vals (ps.map Prod.snd))/\Gp.PRel s.data.toList base 0 ps k/\Gp.Good s.data.toList base 0 ps k/\Below w.heap.size w wr)
  (fun _ _ a _=>s.size-(intOf a).toNat)
 case atStart=>exact ⟨[],0,Nat.zero_le _,rfl,World.ownsRow_nil _ _ _ _,World.ownsRow_nil _ _ _ _,Gp.PRel.start _ _ _,Gp.Good.start _ _ _,Below.refl _ _⟩
 case round=>
  obtain ⟨ps,k,hk,rfl,hO,hP,hr,hgd,hb⟩:=hrel;have HR:=zid hr;have HG:=zid hgd;have HO:=zid hO;have HP:=zid hP;have HB:=zid hb;have hsz:=hb.size;have hfew:=hgd.few;clear hr hgd
  by_cases hlt:k<s.size
  · have C:=fun W:World=>zc0 s (k:Int) W (by omega)
    rw [zeq] at C
    rcases Fr.nx_cases (s.data.toList.drop k) with ⟨er,he,h3⟩ | ⟨j,b,he,h5,h6,h7,h8⟩
    · rw [zb2 he (by omega)] at C
      have HV:=zid (HFU.out.trans (HR.out.stop (by rw [HL.out];exact hlt) (Rp.nxt_no he (by omega)) (by omega)))
      replace C:=zid C;clear he hO hP
      rcases h3 with rfl | rfl | rfl
      all_goals
       go_wp2_with fail
       refine (C.out _).mono ?_;rintro e w1 ⟨rfl,b1⟩;have b01:=hb.trans (b1.mono hb.size);have HF:=zid (zc2 (Nat.le_trans hk hs) HG.out (zau HO.out b1) (zau HP.out b1) HV.out b01);go_wp2_with fail;refine bodyPost_ret (v:= .tuple #[u8,u9,.int .i64 k,.int .i64 _]) (by simp [results,Tryz.results106,go_sem];rfl) rfl ?_;exact HF.out
    · rw [zdt he] at C
      obtain ⟨q,hq⟩:∃q,k+j=q:=⟨_,rfl⟩
      rw [hq] at C;replace C:=zid C
      have hbl:b.length<=9223372036854775807:=by have:=h7.2;omega
      have D:=fun W:World=>rget_any ⟨b.toArray⟩ W (by rw [zaO];exact hbl);rw [show (⟨b.toArray⟩:ByteArray).data.toList=b from rfl] at D
      rcases Rp.get_cases b with ⟨er,hg,h3⟩ | ⟨r,hg,hok,hbd⟩
      · rw [zdw hg] at D
        have HV:=zid (HFU.out.trans (HR.out.stop (by rw [HL.out];exact hlt) (Rp.nxt_bad he hg (by omega)) (by omega)))
        replace D:=zid D;clear he hg h5 h6 h7 h8 hq hbl hO hP
        rcases h3 with rfl | rfl | rfl
        all_goals
         go_wp2_with fail
         refine (C.out _).mono ?_;rintro e w1 ⟨rfl,b1⟩;go_wp2_with fail;refine (D.out _).mono ?_;rintro e w2 ⟨rfl,b2⟩;have b12:=zah b1 b2;have b01:=hb.trans (b12.mono hb.size);have b02:=b01.alloc b01.size (.cells #[.int .i64 0,.int .i64 0,.string ⟨#[]⟩] 46);have HF:=zid (zc2 (Nat.le_trans hk hs) HG.out ((zau HO.out b12).alloc (.cells #[.int .i64 0,.int .i64 0,.string ⟨#[]⟩] 46)) ((zau HP.out b12).alloc (.cells #[.int .i64 0,.int .i64 0,.string ⟨#[]⟩] 46)) HV.out b02);clear b02 b12 b01;go_wp2_with fail;refine bodyPost_ret (v:= .tuple #[u8,u9,.int .i64 k,.int .i64 _]) (by simp [results,Tryz.results106,go_sem];rfl) rfl ?_;exact HF.out
      · rw [zfa hg] at D
        have hnx:=Rp.nxt_yes he hg
        have h6':=h6;rw [List.length_drop,HL.out] at h6;have h7b:=Rp.body_pos r;rw [hbd] at h7b;unfold zbm at D;replace D:=zid D;obtain ⟨va,vc,rfl⟩:=own_slice hO;obtain ⟨ln,hln⟩:∃ln,ps.length=ln:=⟨_,rfl⟩
        have hlk:7*ln<=k:=by omega
        by_cases ha:r.a=base+ps.length
        · have HST:=zid (HR.out.step hnx (by omega) h6' ha)
          have HSG:=zid (HG.out.step hok ha (by omega) h6')
          rw [hq] at HST HSG
          have hq2:q<=s.size:=by omega
          have hq4:k<q:=by omega
          have HSF:=zid (ziG Prod.fst ps (r,k));have HSS:=zid (ziG Prod.snd ps (r,k));have HSL:=zid (show (ps++[(r,k)]).length=ps.length+1 by simp);have HNV:=zid (NL.vals_append (ps.map Prod.snd) [k]);rw [hln] at ha HSL;obtain ⟨ra,rt,rd⟩:=r;dsimp only at ha D HST HSG HSF HSS HSL;subst ha;clear he hg hok hnx h5 h6 h6' h7 h8 h7b hq hbl hbd hO hP;rw [hln] at HO HP ⊢;clear hln;go_wp2_with fail;refine (C.out _).mono ?_;rintro e w1 ⟨rfl,b1⟩;go_wp2_with fail;refine (D.out _).mono ?_;rintro e w2 ⟨rfl,b2⟩;have HB12:=zid (zah b1 b2);have HB01:=zid (HB.out.trans (HB12.out.mono hsz));have HO2:=zid (((zau HO.out HB12.out).alloc (.cells #[.int .i64 (base+(ln:Int)),.int .i64 rt,.string rd] 46)).alloc (.cells #[.int .i64 (base+(ln:Int)),.int .i64 rt,.string rd] 46));have HP2:=zid (((zau HP.out HB12.out).alloc (.cells #[.int .i64 (base+(ln:Int)),.int .i64 rt,.string rd] 46)).alloc (.cells #[.int .i64 (base+(ln:Int)),.int .i64 rt,.string rd] 46));have HBB:=zid ((HB01.out.alloc HB01.out.size (.cells #[.int .i64 (base+(ln:Int)),.int .i64 rt,.string rd] 46)).alloc (by have:=HB01.out.size;simp;omega) (.cells #[.int .i64 (base+(ln:Int)),.int .i64 rt,.string rd] 46));have hs2:=HB01.out.size;clear b1 b2
          go_wp2_with (first | (at_builtin;refine wpList_append_own _ rfl _ _ 88 rfl w.heap.size 46 i0 (.agg #[.int .i64 0,.int .i64 0,.string ByteArray.empty]) 3 32 Tryz.underlying88 hi hz0 hz1 hz2 rfl (by decide) _ _ _ rfl HO2.out ⟨w2.heap.size+1,0,none⟩ 1 1 [.int .i64 (base+(ln:Int)),.int .i64 rt,.string rd] (by simp [go_sem]) rfl (news_two _ _ _ _ _ _) (by simp [Value.oneCell']) (by unfold maxLen;omega) (by omega) (by simp;omega) ?_;intro v3 w3 hown3 hgrow3 hnil3;have HO3:=zid hown3;have HP3:=zid (World.ownsRow.kept HP2.out hgrow3 (ze0 HP2.out HO2.out (by decide)));have HB3:=zid (HBB.out.grown hgrow3 (by simp;omega) (fun p hp=>(HO.out.lt p hp).1));have hs3:=HB3.out.size;clear hown3 hgrow3 hnil3;have HP4:=zid (HP3.out.alloc (.cells #[.int .i64 k] 3));have HO4:=zid (HO3.out.alloc (.cells #[.int .i64 k] 3));have HB4:=zid (HB3.out.alloc hs3 (.cells #[.int .i64 k] 3))) | (at_builtin;refine wpList_append_own _ rfl _ _ 74 rfl w.heap.size 3 i1 (.int .i64 0) 1 8 Tryz.underlying74 hj hy0 hy1 hy2 rfl (by decide) _ _ _ rfl HP4.out ⟨w3.heap.size,0,none⟩ 1 1 [.int .i64 k] (by simp [go_sem]) rfl (zar w3 _ [.int .i64 k] 3 rfl) (by simp [Value.oneCell']) (by unfold maxLen;omega) (by omega) (by simp;omega) ?_;intro v5 w5 hown5 hgrow5 hnil5))
          go_roundw
          case rel=>exact ⟨ps++[(⟨base+(ln:Int),rt,rd⟩,k)],q,hq2,rfl,by rw [HSL.out,HSF.out,zgw];exact World.ownsRow.kept HO4.out hgrow5 (ze0 HO4.out HP4.out (by decide)),by rw [HSL.out,HSS.out,NL.vals_append];exact hown5,HST.out,HSG.out,HB4.out.grown hgrow5 (by simp;omega) (fun p hp=>(HP.out.lt p hp).1)⟩
          case measure=>simp [intOf];omega
        · have HV:=zid (HFU.out.trans (HR.out.form (by rw [HL.out];exact hlt) hnx ha))
          have haw:¬r.a=base+(ln:Int):=by rw [<-hln];exact ha
          have hae:(r.a==base+(ln:Int))=false:=by simpa using haw
          clear he hg hok hnx h5 h6 h6' h7 h8 h7b hq hbl hbd hO hP ha;have HE:=zid fun (W:World) (h1:W.ownsRow w.heap.size 46 3 (.slice va ps.length vc) ps.length (zbj (ps.map Prod.fst))) (h2:W.ownsRow w.heap.size 3 1 u9 ps.length (NL.vals (ps.map Prod.snd))) (h3:Below w.heap.size w W)=>zc2 (Nat.le_trans hk hs) HG.out h1 h2 HV.out h3;rw [hln] at HE HO HP ⊢;clear hln;go_wp2_with fail;refine (C.out _).mono ?_;rintro e w1 ⟨rfl,b1⟩;go_wp2_with fail;refine (D.out _).mono ?_;rintro e w2 ⟨rfl,b2⟩;have HB12:=zid (zah b1 b2);have HB01:=zid (HB.out.trans (HB12.out.mono hsz));have HF:=zid (HE.out _ ((zau HO.out HB12.out).alloc (.cells #[.int .i64 r.a,.int .i64 r.t,.string r.d] 46)) ((zau HP.out HB12.out).alloc (.cells #[.int .i64 r.a,.int .i64 r.t,.string r.d] 46)) (HB01.out.alloc HB01.out.size (.cells #[.int .i64 r.a,.int .i64 r.t,.string r.d] 46)));clear b1 b2;go_wp2_with fail;refine bodyPost_ret (v:= .tuple #[.slice va ln vc,u9,.int .i64 k,.int .i64 3]) (by simp [results,Tryz.results106,go_sem]) rfl ?_;exact HF.out
  · have HV:=zid (HFU.out.trans (HR.out.done (by rw [HL.out];omega)))
    have HF:=zid (zc2 (Nat.le_trans hk hs) HG.out HO.out HP.out HV.out hb)
    clear hO hP;go_wp2_with fail;refine bodyPost_ret (v:= .tuple #[u8,u9,.int .i64 k,.int .i64 0]) (by simp [results,Tryz.results106,go_sem]) rfl ?_;exact HF.out
theorem zhA (s:ByteArray) (base:Int) (w:World) (hs:s.size<=4398046511104) (h1: -9223372036854775808<=base) (h2:base<=9223372036854775807):
 Calls Tryz.prog 106 #[.string s,.int .i64 base] w (zbJ w (Gp.full s.data.toList base)):=by
 by_cases h:base<0\/1099511627776<base
 · exact zhz s base w h h1 h2
 · exact zjj s base w hs (by omega) (by omega)
def zlS (w:World) (F:List (Rp.Rec×Nat)×Nat×Int) (e:Ending) (w':World):Prop:=
 ∃v,e= .returned (.tuple #[v,.int .i64 (F.2.1:Nat),.int .i64 F.2.2])/\zbL w' v (F.1.map Prod.fst)/\Below w.heap.size w w'
theorem zeR (s:ByteArray) (base:Int) (w:World) (hs:s.size<=4398046511104) (h1: -9223372036854775808<=base) (h2:base<=9223372036854775807):
 Calls Tryz.prog 77 #[.string s,.int .i64 base] w (zlS w (Gp.full s.data.toList base)):=by
 have P:=zid (zhA s base w hs h1 h2);generalize Gp.full s.data.toList base=F at*
 go_enter Tryz.func77,Tryz.ntmps77
 go_wp2_with fail;refine P.out.mono ?_;rintro e w1 ⟨v,vp,rfl,hv,hp,b1⟩;have HF:=zid (show zlS w F (.returned (.tuple #[v,.int .i64 (F.2.1:Nat),.int .i64 F.2.2])) w1 from ⟨v,rfl,hv,b1⟩);clear hv hp b1;go_wp2_with fail;go_ret3;exact HF.out
theorem cells3 {W:World} {k:Nat} {T:TypeId} {x y z:Value} (h:W.heap[k]?=some (.cells #[x,y,z] T (0,0))):W.cell? ⟨k,0,none⟩=some x/\W.cell? ⟨k,1,none⟩=some y/\W.cell? ⟨k,2,none⟩=some z:=
 ⟨by rw [cell_of_row _ _ 0 _ _ _ h];rfl,by rw [cell_of_row _ _ 1 _ _ _ h];rfl,by rw [cell_of_row _ _ 2 _ _ _ h];rfl⟩
theorem bel_st3 {base k:Nat} {w W:World} (h:Below base w W) (hk:base<=k) (x y z:Value):Below base w (((W.setCell ⟨k,0,none⟩ x).setCell ⟨k,1,none⟩ y).setCell ⟨k,2,none⟩ z):=
 ((h.setCell (p:=⟨k,0,none⟩) hk x).setCell (p:=⟨k,1,none⟩) hk y).setCell (p:=⟨k,2,none⟩) hk z
end
namespace Ro
open Go.RowKit So Dsk Rts Sto
theorem zd5 (L:List UInt8) (b:Int):(Gp.full L b).1.length<=L.length/\(Gp.full L b).2.1<=L.length:=by
 obtain ⟨ps,k,e,h1,h2,_⟩:=Gp.full_good L b;rw [h1];have h3:=h2.few;have h4:=h2.le;dsimp only;omega
theorem zjt {w:World} {v:Value} {rs:List Rp.Rec} (h:zbL w v rs):∃a c,v= .slice a rs.length c:=by
 obtain ⟨a,c,e,_⟩:=h;exact ⟨a,c,e⟩
theorem zbx (D:Dp.Dk) (n:ByteArray):(dat D n=none/\zby D.f n= .tuple #[.string ⟨#[]⟩,.int .i64 7])\/ ∃s:ByteArray,dat D n=some s.data.toList/\zby D.f n= .tuple #[.string s,.int .i64 0]/\s.size<=Dp.used D.f:=by
 unfold dat
 rcases h:Dp.get D.f n with _ | f
 · exact .inl ⟨rfl,zch h⟩
 · exact .inr ⟨f.d,rfl,zbT h,zcr (Dp.get_mem h).1⟩
end Ro
namespace Sto
open Go.RowKit So Dsk Rts
theorem zex (fv gv:Value) (S:St) (w:World) (hg:IsL Rts.SL w gv S.g) (_:S.g≠[]):
 Calls Tryz.prog 61 #[zag fv gv S] w fun e w'=>e= .returned (.int .i64 (floor S))/\Below w.heap.size w w':=by
 obtain ⟨ga,gn,gc,rfl⟩:∃a n c,gv= .slice a n c:=by obtain ⟨a,c,h,_⟩:=hg;exact ⟨a,_,c,h⟩
 have hgl:=hg.len.1;have hpos:0<S.g.length:=List.length_pos_iff.2 (by assumption);obtain ⟨m,rfl⟩:∃m,gn=m+1:=⟨gn-1,by omega⟩;have HG:=zid fun (W:World) (b:Below w.heap.size w W)=>zce (hg.keep b) (Nat.zero_lt_succ m)
 have HL:=zid (show S.g.getD 0 Rt.zero=S.g.headD Rt.zero by cases S.g<;>rfl)
 have HF:=zid (show floor S=(S.g.headD Rt.zero).b from rfl);rw [HL.out] at HG;generalize S.g.headD Rt.zero=g at*;unfold zag;have hb0:=zid ((Below.refl w.heap.size w).alloc (Nat.le_refl _) (.cells (zaU fv (.slice ga (m+1) gc) S) 31));have g0:=heap_alloc_new w (.cells (zaU fv (.slice ga (m+1) gc) S) 31);unfold zaU at hb0 g0;obtain ⟨b,off,rfl,c0,_,_⟩:=HG.out _ hb0.out;obtain ⟨⟨d0,d1,d2,d3,d4⟩,d5,d6,d7,d8,d9,d10⟩:=zab g0;simp only [Nat.zero_mul,Nat.add_zero] at c0
 have hz:(((m+1:Nat):Int)==0)=false:=by simp;omega
 clear hg hgl hpos g0
 go_enter Tryz.func61,Tryz.ntmps61
 go_wp2_with fail;go_ret;exact ⟨by rw [HF.out];rfl,hb0.out⟩
theorem zlo (fv:Value) (D:Dp.Dk) (n:ByteArray) (w:World) (hv:IsL FL w fv D.f) (hS:Sm D):
 Calls Tryz.prog 128 #[zac fv D,.string n] w fun e w'=>e= .returned (.bool (Dp.get D.f n).isSome)/\Below w.heap.size w w':=by
 have b0:=(Below.refl w.heap.size w).alloc (Nat.le_refl _) (.cells #[fv,.int .i64 D.c,.bool D.a,.int .i64 D.l,.bool D.x] 27);have C:=zid (Dsk.read_any fv D n _ (hv.keep b0) hS.r.2.1 (by have:=hS.n;omega));obtain ⟨d0,d1,d2,d3,d4⟩:=zaa (heap_alloc_new w (.cells #[fv,.int .i64 D.c,.bool D.a,.int .i64 D.l,.bool D.x] 27));have B0:=zid b0;clear hv hS b0;unfold zac at C ⊢
 cases hg:Dp.get D.f n with
 | none=>
  rw [zch hg] at C;clear hg
  go_enter Tryz.func128,Tryz.ntmps128
  go_wp2_with fail;refine C.out.mono ?_;rintro e w1 ⟨rfl,b1⟩;have B1:=zid (B0.out.trans (b1.mono B0.out.size));clear b1;go_wp2_with fail;go_ret;exact ⟨rfl,B1.out⟩
 | some f=>
  rw [zbT hg] at C;clear hg
  go_enter Tryz.func128,Tryz.ntmps128
  go_wp2_with fail;refine C.out.mono ?_;rintro e w1 ⟨rfl,b1⟩;have B1:=zid (B0.out.trans (b1.mono B0.out.size));clear b1;go_wp2_with fail;go_ret;exact ⟨rfl,B1.out⟩
end Sto
end Go.Proofs.YtgmppfpllogdcaaGreat

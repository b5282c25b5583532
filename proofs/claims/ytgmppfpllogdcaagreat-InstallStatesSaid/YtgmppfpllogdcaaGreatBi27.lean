/-
  Parts of what the laws of this seat stand on:ManGet.
-/
import Derived.Test.YtgmppfpllogdcaaGreatBi1
import Derived.Deep.Heap
import Derived.Test.YtgmppfpllogdcaaGreatBi16
import Derived.Test.YtgmppfpllogdcaaGreatBi25
set_option maxRecDepth 100000
set_option maxHeartbeats 6400000
namespace Go.Proofs.YtgmppfpllogdcaaGreat
namespace Mfs
open Go.RowKit Qm
def zbi (w:World) (R:Mn×Int) (e:Ending) (w':World):Prop:=∃a n c,e= .returned (.tuple #[mnVal a n c R.1,.int .i64 R.2])/\IsL IL w' (.slice a n c) R.1.l/\Below w.heap.size w w'
theorem zbi.mk0 {w w':World} (er:Int) (hb:Below w.heap.size w w'):zbi w (zero,er) (.returned (.tuple #[.agg #[.int .i64 0,.slice none 0 0,.int .i64 0,.int .u32 0],.int .i64 er])) w':=⟨none,0,0,rfl,IsL.nil w' none 0,hb⟩
theorem info_int:(Tryz.prog.info? 3).map (fun i=>(i.zero,i.size,i.bytes))=some (some (.int .i64 0),1,8):=by kernel_rfl
theorem zcD {W:World} {k:Nat} {T:TypeId} {cs:Array Value} (h:W.heap[k]?=some (.cells cs T (0,0))):W.frozen? ⟨k,0,none⟩=false/\W.frozen? ⟨k,1,none⟩=false/\W.frozen? ⟨k,2,none⟩=false/\W.frozen? ⟨k,3,none⟩=false:=by
 refine ⟨?_,?_,?_,?_⟩<;>(unfold World.frozen?;rw [h];rfl)
theorem zdi {base k:Nat} {w W:World} (h:Below base w W) (hk:base<=k) (x y z u:Value):Below base w ((((W.setCell ⟨k,0,none⟩ x).setCell ⟨k,1,none⟩ y).setCell ⟨k,2,none⟩ z).setCell ⟨k,3,none⟩ u):=
 (((h.setCell (p:=⟨k,0,none⟩) hk x).setCell (p:=⟨k,1,none⟩) hk y).setCell (p:=⟨k,2,none⟩) hk z).setCell (p:=⟨k,3,none⟩) hk u
theorem zkT {w:World} {B:Nat} {v:Value} {l:List Int} (h:OwnL IL w B v l):∃a c,v= .slice a l.length c:=by
 rcases h.2 with ⟨rfl,h0⟩ | ⟨g,cap,cur,rfl,_⟩
 · rw [show l.length=0 from h0]
   exact ⟨none,0,rfl⟩
 · exact ⟨_,_,rfl⟩
theorem zjq (s:ByteArray) (er:Nat) (w:World) (hs:s.size<=140737488351232) (he:Fr.nx s.data.toList=(er,0,[])) (h3:er=2\/er=3\/er=4):
 Calls Tryz.prog 49 #[.string s] w (zbi w (getM s.data.toList)):=by
 rw [getM_err he (by omega)];have C:=fun W:World=>zc0 s 0 W hs;rw [show (0:Int)=((0:Nat):Int) from rfl,zeq,zb2 (k:=0) he (by omega)] at C;replace C:=zid C;have HA:=zid ((Below.refl w.heap.size w).alloc (Nat.le_refl _) (.cells #[.int .i64 0,.slice none 0 0,.int .i64 0,.int .u32 0] 76));have G0:=zid (heap_alloc_new w (.cells #[.int .i64 0,.slice none 0 0,.int .i64 0,.int .u32 0] 76));clear he
 rcases h3 with rfl | rfl | rfl
 all_goals
  go_enter Tryz.func49,Tryz.ntmps49
  go_wp2_with fail;refine (C.out _).mono ?_;rintro e w1 ⟨rfl,b1⟩;have G1:=zid ((b1.block w.heap.size (Array.getElem?_eq_some_iff.1 G0.out).1).trans G0.out);have B1:=zid (HA.out.trans (b1.mono HA.out.size));obtain ⟨z0,z1,z2,z3⟩:=cells4 G1.out;obtain ⟨f0,f1,f2,f3⟩:=zcD G1.out;clear b1;go_wp2_with fail;refine bodyPost_ret (v:= .tuple #[.agg #[.int .i64 0,.slice none 0 0,.int .i64 0,.int .u32 0],.int .i64 _]) (by simp [results,Tryz.results49,go_sem,z0,z1,z2,z3];rfl) rfl ?_;exact zbi.mk0 _ (zdi B1.out (Nat.le_refl _) _ _ _ _)
theorem four_get (x:Nat) (_hx:x<4294967296):∀k,k<4->((Fr.four x).getD k 0).toNat=x/256^k%256
 | 0,_=>by show (UInt8.ofNat (x%256)).toNat=x/1%256;rw [UInt8.toNat_ofNat',Nat.div_one];exact Nat.mod_mod _ _
 | 1,_=>by show (UInt8.ofNat (x/256%256)).toNat=_;rw [UInt8.toNat_ofNat'];omega
 | 2,_=>by show (UInt8.ofNat (x/65536%256)).toNat=_;rw [UInt8.toNat_ofNat'];omega
 | 3,_=>by show (UInt8.ofNat (x/16777216)).toNat=_;rw [UInt8.toNat_ofNat']
theorem byte_get {B:ByteArray} {a b:List UInt8} (h:B.data.toList=a++b) {k:Nat} (hk:k<b.length) (hi:a.length+k<B.size):(B[a.length+k]'hi).toNat=(b.getD k 0).toNat:=by
 have e:B[a.length+k]'hi=(B.data.toList)[a.length+k]'(by show a.length+k<B.size;exact hi):=rfl;rw [e]
 congr 1
 have e2:(B.data.toList)[a.length+k]?=b[k]?:=by rw [h,List.getElem?_append_right (by omega)];congr 1;omega
 rw [List.getElem?_eq_getElem (show a.length+k<B.data.toList.length from hi),List.getElem?_eq_getElem hk] at e2
 injection e2 with e2
 rw [e2]
 simp [List.getD_eq_getElem?_getD,hk]
theorem nums_one (m:Mn):(nums m).getD 1 0=(m.l.length:Int):=rfl
def P (m:Mn) (i:Nat):Nat:=(puts ((nums m).take i)).length
theorem P_le (m:Mn) {i:Nat}:P m i<=(puts (nums m)).length:=by
 unfold P
 have e:puts (nums m)=puts ((nums m).take i)++puts ((nums m).drop i):=by rw [<-zaV,List.take_append_drop]
 rw [e,List.length_append];omega
theorem P_all (m:Mn):P m (m.l.length+3)=(puts (nums m)).length:=by
 unfold P;rw [List.take_of_length_le (by rw [nums_len];exact Nat.le_refl _)]
theorem zle {α:Type} {Y:Lay α} {W W':World} {g off n c:Nat} {l:List α} (h:IsL Y W (.slice (some ⟨g,off,none⟩) n c) l) (hb:W'.heap[g]?=W.heap[g]?):IsL Y W' (.slice (some ⟨g,off,none⟩) n c) l:=by
 obtain ⟨a,cap,e,h1,h2,h3⟩:=h
 injection e with e1 e2 e3
 subst e1 e2 e3;refine ⟨_,_,rfl,h1,h2,?_⟩
 rcases h3 with h3 | ⟨b,o,e4,h4⟩
 · exact .inl h3
 · injection e4 with e4
   injection e4 with e4 e5
   subst e4 e5;exact .inr ⟨_,_,rfl,fun j u hj=>(World.cell?_of_block (a:=⟨g,off+j,none⟩) hb).trans (h4 j u hj)⟩
theorem zjp (s:ByteArray) (m:Mn) (w:World) (hm:Ok m) (hs:s.data.toList=Fr.fr (body m)):
 Calls Tryz.prog 49 #[.string s] w (zbi w (getM s.data.toList)):=by
 rw [hs,getM_yes hm]
 have hz:s.size=(Fr.fr (body m)).length:=by rw [<-hs];rfl
 have hmay:=body_may hm
 have hzl:s.size<=140737488351232:=by rw [hz,Fr.fr_len];have:=zfx (body m).length;have:=hmay.2;omega
 have C:=fun W:World=>zc0 s 0 W hzl
 have hnx:Fr.nx (s.data.toList.drop 0)=(0,(Fr.fr (body m)).length,body m):=by
  have:=Fr.nx_fr (body m) [] hmay;rw [List.append_nil] at this;show Fr.nx s.data.toList=_;rw [hs];exact this
 rw [show (0:Int)=((0:Nat):Int) from rfl,zeq,zdt hnx] at C;have hnn:=zbA hm
 have RD:=zid fun (i:Nat) (hi:i<m.l.length+3) (W:World)=>(show Calls Tryz.prog 38 #[.string ⟨(body m).toArray⟩,.int .i64 (P m i:Nat)] W fun e w'=>e= .returned (.tuple #[.int .i64 ((nums m).getD i 0),.int .i64 (P m (i+1):Nat),.bool true])/\Below W.heap.size W w' from by
  have hb:(body m).length<=9223372036854775807:=by have:=hmay.2;omega
  have:=rread_any ⟨(body m).toArray⟩ (P m i:Nat) W (by rw [zaO];exact hb);obtain ⟨h1,h2⟩:=zfY hnn (i:=i) (by rw [nums_len];exact hi) (Fr.four m.c.toNat);rw [zbf (n:=((nums m).getD i 0).toNat) (j:=(Vp.put ((nums m).getD i 0).toNat).length) (q:=P m (i+1)) (by show Vp.take ((body m).drop (P m i))=_;exact h1) (by unfold P;rw [h2])] at this
  have e:(((nums m).getD i 0).toNat:Int)=(nums m).getD i 0:=by
   have:=hnn ((nums m).getD i 0) (by
    rw [List.getD_eq_getElem?_getD,List.getElem?_eq_getElem (by rw [nums_len];exact hi)]
    exact List.getElem_mem _)
   omega
  rw [e] at this
  exact this)
 obtain ⟨i0,hi,hz0,hz1,hz2⟩:=info_parts info_int;have HA:=zid ((Below.refl w.heap.size w).alloc (Nat.le_refl _) (.cells #[.int .i64 0,.slice none 0 0,.int .i64 0,.int .u32 0] 76));have G0:=zid (heap_alloc_new w (.cells #[.int .i64 0,.slice none 0 0,.int .i64 0,.int .u32 0] 76));have HBL:=zid (body_len m);have HPL:=zid fun i=> @P_le m i;have HPA:=zid (P_all m);have HSB:=zid hs;have HM:=zid hm;have hn64:=hm.n1;have hn1:=hm.n0;have hbl2:(body m).length<=65536:=hmay.2;have HTK:=zid fun i (hi:i<m.l.length+3)=>(show (nums m).take (i+1)=(nums m).take i++[(nums m).getD i 0] from zbv (by rw [nums_len];exact hi));have HTL:=zid fun i (hi:i<=m.l.length+3)=>(show ((nums m).take i).length=i from by rw [List.length_take,nums_len];omega);have HNN:=zid hnn;have HN1:=zid (nums_one m)
 have HLT:=zid fun i (hi:i<m.l.length+3)=>(show P m i<P m (i+1) from by
  obtain ⟨_,h2⟩:=zfY hnn (i:=i) (by rw [nums_len];exact hi) [];unfold P;rw [h2];have:=Vp.put_len_pos ((nums m).getD i 0).toNat
  omega)
 obtain ⟨B,hB⟩:∃B:ByteArray,(⟨(body m).toArray⟩:ByteArray)=B:=⟨_,rfl⟩
 have hBz:B.size=(body m).length:=by rw [<-hB];exact zaO _
 rw [hB] at RD C;have HBB:=zid hB;have HBZ:=zid hBz
 have hbz2:B.size<=65536:=by omega
 replace C:=zid C;clear hs hz hnx hnn hmay hm hB hBz;have HNA:=zid (show (nums m).take (m.l.length+3)=nums m from List.take_of_length_le (by rw [nums_len];exact Nat.le_refl _));have HV0:=zid (show (IL.vals (nums m))[0]?=some (.int .i64 m.v) from rfl)
 have HVZ:=zid (show (IL.vals (nums m))[m.l.length+2]?=some (.int .i64 m.z) from by
  have:=IL.vals_get (nums m) (m.l.length+2) 0 (by rw [nums_len];omega) (by decide)
  have e2:(nums m).getD (m.l.length+2) IL.z=m.z:=by
   unfold nums;rw [List.getD_cons_succ,List.getD_cons_succ,List.getD_eq_getElem?_getD,List.getElem?_append_right (Nat.le_refl _),Nat.sub_self]
   rfl
  rw [e2,show (m.l.length+2)*IL.k+0=m.l.length+2 from by show (m.l.length+2)*1+0=_;omega] at this
  exact this)
 have HNL:=zid (show ∃k,m.l.length=k from ⟨_,rfl⟩);generalize hNN:m.l.length=N at*;replace HNL:=zid hNN;clear hNN;clear hbl2
 go_enter Tryz.func49,Tryz.ntmps49
 go_wp2_with fail;refine (C.out _).mono ?_;rintro e w1 ⟨rfl,b1⟩;have G1:=zid ((b1.block w.heap.size (Array.getElem?_eq_some_iff.1 G0.out).1).trans G0.out);have B1:=zid (HA.out.trans (b1.mono HA.out.size));have hs1:=B1.out.size;clear b1 G0 HA;go_wp2_with fail
 go_loopw [7,8] (fun v a wr=>∃i:Nat,i<N+3/\a= .int .i64 (P m i:Nat)/\OwnL IL wr w1.heap.size v ((nums m).take i)/\Below w1.heap.size w1 wr) (fun _ a _=>B.size-(intOf a).toNat)
 case atStart=>exact ⟨0,by omega,rfl,OwnL.nil _ _,Below.refl _ _⟩
 case round=>
  obtain ⟨i,hi3,rfl,hO,hb⟩:=hrel;obtain ⟨va,vc,rfl⟩:=zkT hO;rw [HTL.out i (by omega)];have HO:=zid hO;have HB:=zid hb;have hsz:=hb.size
  have hpi:P m i+4<=B.size:=by have:=HPL.out i;have:=HBL.out;have:=HBZ.out;omega
  have hpi2:P m (i+1)+4<=B.size:=by have:=HPL.out (i+1);have:=HBL.out;have:=HBZ.out;omega
  have hpl:P m i<P m (i+1):=HLT.out i hi3
  have c1:((P m i:Nat):Int)<(B.size:Int):=by omega
  have c2:(i:Int)<100:=by omega
  have R:=RD.out i hi3
  have HX1:=zid (show 1<=i->(IL.vals ((nums m).take i)++[.int .i64 ((nums m).getD i 0)])[1]?=some (.int .i64 (N:Int)) from fun h1=>by
   have e:IL.vals ((nums m).take i)++[.int .i64 ((nums m).getD i 0)]=IL.vals ((nums m).take (i+1)):=by rw [HTK.out i hi3,IL.vals_append,IL.vals_one];rfl
   rw [e];have:=IL.vals_get ((nums m).take (i+1)) 1 0 (by rw [HTL.out (i+1) (by omega)];omega) (by decide)
   have e2:((nums m).take (i+1)).getD 1 IL.z=(N:Int):=by
    rw [List.getD_eq_getElem?_getD,List.getElem?_take_of_lt (by omega), <-List.getD_eq_getElem?_getD];exact HN1.out
   rw [e2] at this
   exact this)
  have HTKI:=zid (HTK.out i hi3);have HVL:=zid (show (IL.vals ((nums m).take i)).length=i from by rw [IL.vals_len,HTL.out i (by omega)];exact Nat.mul_one i);obtain ⟨f,hf⟩:∃f,(nums m).getD i 0=f:=⟨_,rfl⟩;obtain ⟨q,hq⟩:∃q,P m (i+1)=q:=⟨_,rfl⟩;obtain ⟨q0,hq0⟩:∃q0,P m i=q0:=⟨_,rfl⟩;rw [hf] at R HX1 HTKI;rw [hq] at R hpi2 hpl;rw [hq0] at R hpi c1 hpl ⊢;have HQ:=zid hq;have HOW:=zid (show wr.ownsRow w1.heap.size 3 1 (.slice va ((nums m).take i).length vc) ((nums m).take i).length (IL.vals ((nums m).take i)) from HO.out);rw [HTL.out i (by omega)] at HOW;obtain ⟨xs,hxs⟩:∃xs,IL.vals ((nums m).take i)=xs:=⟨_,rfl⟩;rw [hxs] at HX1 HVL HOW;have HXS:=zid hxs;clear hxs;replace R:=zid R;clear hO hb hf hq hq0
  have hcase:i<2\/(2<=i/\i+1<N+3)\/i+1=N+3:=by omega
  rcases hcase with h2 | ⟨h2,h3⟩ | h2
  · have a1:decide ((3:Int)<=(i:Int)+1)=false:=by simp;omega
    go_wp2_with fail
    refine (R.out _).mono ?_;rintro e w2 ⟨rfl,b2⟩;have HB2:=zid (HB.out.trans (b2.mono hsz));have HOW2:=zid (zau HOW.out b2);have hs2:=HB2.out.size;clear b2
    go_wp2_with (at_builtin;refine wpList_append_own _ rfl _ _ 74 rfl w1.heap.size 3 i0 (.int .i64 0) 1 8 Tryz.underlying74 hi hz0 hz1 hz2 rfl (by decide) _ _ _ rfl (HOW2.out.alloc _) ⟨w2.heap.size,0,none⟩ 1 1 [.int .i64 f] rfl rfl (zar w2 _ _ _ rfl) (fun x hx=>by simp at hx;subst hx;rfl) (by unfold maxLen;omega) (by omega) (by simp;omega) ?_;intro v3 w3 hown3 hgrow3 hnil3;obtain ⟨g3,cap3,cur3,hv3,hg3,hh3,hc3,hm3,hz3,ht3⟩:=hown3.2.resolve_left (fun h=>by have:=h.2;omega);subst hv3;have HO3:=zid hown3;have HB3:=zid ((HB2.out.alloc hs2 (.cells [.int .i64 f].toArray 3)).grown hgrow3 (by simp;omega) (fun p hp=>(HOW2.out.lt p hp).1));clear hown3 hgrow3 hnil3 hh3 hz3 ht3)
    go_roundw
    case rel=>exact ⟨i+1,by omega,by rw [HQ.out],by show World.ownsRow w3 _ _ _ _ _ _;rw [HTKI.out,IL.vals_append,List.length_append,HTL.out i (by omega),IL.vals_one];rw [HXS.out];exact HO3.out,HB3.out⟩
    case measure=>simp [intOf];omega
  · have a1:decide ((3:Int)<=(i:Int)+1)=true:=by simp;omega
    have a2:((i:Int)+1==(N:Int)+3)=false:=by simp;omega
    go_wp2_with fail;refine (R.out _).mono ?_;rintro e w2 ⟨rfl,b2⟩;have HB2:=zid (HB.out.trans (b2.mono hsz));have HOW2:=zid (zau HOW.out b2);have hs2:=HB2.out.size;clear b2
    go_wp2_with (at_builtin;refine wpList_append_own _ rfl _ _ 74 rfl w1.heap.size 3 i0 (.int .i64 0) 1 8 Tryz.underlying74 hi hz0 hz1 hz2 rfl (by decide) _ _ _ rfl (HOW2.out.alloc _) ⟨w2.heap.size,0,none⟩ 1 1 [.int .i64 f] rfl rfl (zar w2 _ _ _ rfl) (fun x hx=>by simp at hx;subst hx;rfl) (by unfold maxLen;omega) (by omega) (by simp;omega) ?_;intro v3 w3 hown3 hgrow3 hnil3;obtain ⟨g3,cap3,cur3,hv3,hg3,hh3,hc3,hm3,hz3,ht3⟩:=hown3.2.resolve_left (fun h=>by have:=h.2;omega);subst hv3;have HO3:=zid hown3;have HB3:=zid ((HB2.out.alloc hs2 (.cells [.int .i64 f].toArray 3)).grown hgrow3 (by simp;omega) (fun p hp=>(HOW2.out.lt p hp).1));have k1:w3.cell? ⟨g3,1,none⟩=some (.int .i64 (N:Int)):=hown3.cells (g:=g3) rfl 1 _ (HX1.out (by omega));clear hown3 hgrow3 hnil3 hh3 hz3 ht3)
    go_roundw
    case rel=>exact ⟨i+1,by omega,by rw [HQ.out],by show World.ownsRow w3 _ _ _ _ _ _;rw [HTKI.out,IL.vals_append,List.length_append,HTL.out i (by omega),IL.vals_one];rw [HXS.out];exact HO3.out,HB3.out⟩
    case measure=>simp [intOf];omega
  · have a1:decide ((3:Int)<=(i:Int)+1)=true:=by simp;omega
    have a2:((i:Int)+1==(N:Int)+3)=true:=by simp;omega
    have a3:decide ((i:Int)+1<3)=false:=by simp;omega
    have hq4:B.size=q+4:=by rw [HBZ.out,HBL.out, <-HQ.out,h2,HPA.out]
    have a4:((B.size:Int)-(q:Int) != 4)=false:=by rw [hq4];simp;omega
    have HQ4:=zid hq4
    have HXV:=zid (show (xs++[.int .i64 f])[0]?=some (.int .i64 m.v)/\(xs++[.int .i64 f])[N+2]?=some (.int .i64 m.z) from by
     have e:xs++[.int .i64 f]=IL.vals (nums m):=by
      have e2:nums m=(nums m).take i++[f]:=by rw [<-HTKI.out,h2,HNA.out]
      rw [e2,IL.vals_append,IL.vals_one,HXS.out];rfl
     rw [e]
     exact ⟨HV0.out,HVZ.out⟩)
    clear hq4;go_wp2_with fail;refine (R.out _).mono ?_;rintro e w2 ⟨rfl,b2⟩;have HB2:=zid (HB.out.trans (b2.mono hsz));have HOW2:=zid (zau HOW.out b2);have hs2:=HB2.out.size;clear b2
    go_wp2_with (at_builtin;refine wpList_append_own _ rfl _ _ 74 rfl w1.heap.size 3 i0 (.int .i64 0) 1 8 Tryz.underlying74 hi hz0 hz1 hz2 rfl (by decide) _ _ _ rfl (HOW2.out.alloc _) ⟨w2.heap.size,0,none⟩ 1 1 [.int .i64 f] rfl rfl (zar w2 _ _ _ rfl) (fun x hx=>by simp at hx;subst hx;rfl) (by unfold maxLen;omega) (by omega) (by simp;omega) ?_;intro v3 w3 hown3 hgrow3 hnil3;obtain ⟨g3,cap3,cur3,hv3,hg3,hh3,hc3,hm3,hz3,ht3⟩:=hown3.2.resolve_left (fun h=>by have:=h.2;omega);subst hv3;have HO3:=zid hown3;have HB3:=zid ((HB2.out.alloc hs2 (.cells [.int .i64 f].toArray 3)).grown hgrow3 (by simp;omega) (fun p hp=>(HOW2.out.lt p hp).1));have k1:w3.cell? ⟨g3,1,none⟩=some (.int .i64 (N:Int)):=hown3.cells (g:=g3) rfl 1 _ (HX1.out (by omega));clear hown3 hgrow3 hnil3 hh3 hz3 ht3)
    have k0:w3.cell? ⟨g3,0,none⟩=some (.int .i64 m.v):=HO3.out.cells (g:=g3) rfl 0 _ HXV.out.1
    have kz:w3.cell? ⟨g3,N+2,none⟩=some (.int .i64 m.z):=by have:=HO3.out.cells (g:=g3) rfl (N+2) _ HXV.out.2;rwa [zak,Nat.zero_add] at this
    have n0:=World.new_ne w3 _ k0;have nz:=World.new_ne w3 _ kz;have hgl:=block_lt_of_cell k0
    have hcap:N+3<=cap3:=by omega
    have t0:(0:Int)<(N:Int)+3:=by omega
    have t1:(N:Int)+3-1=(N:Int)+2:=by omega
    have t2:IntKind.i64.wrap ((N:Int)+2)=(N:Int)+2:=IntWalk.i64_in _ ⟨by omega,by omega⟩
    have t3:(2:Int)<=(N:Int)+2:=by omega
    have t4:(N:Int)+2<=(cap3:Int):=by omega
    have t5:(N:Int)+2<(N:Int)+3:=by omega
    have t6:((N:Int)+2).toNat=N+2:=by omega
    have t7:(0:Int)<=(N:Int)+2:=by omega
    have t8:¬cap3=2:=by omega
    go_region_held3 (fun W=>W.cell? ⟨g3,0,none⟩=some (.int .i64 m.v)/\W.cell? ⟨g3,N+2,none⟩=some (.int .i64 m.z)) (go_keep) (fail)
    go_wp2_with fail;obtain ⟨C4,hC4⟩:∃C4:Nat,m.c=(C4:Int):=⟨m.c.toNat,by have:=HM.out.c;omega⟩
    have hC5:C4<4294967296:=by have:=HM.out.c;omega
    have HC4:=zid hC4;clear hC4;have D4:=zid (((Below.refl w3.heap.size w3).alloc (Nat.le_refl _) (.cells #[.int .i64 m.v,.slice (some ⟨g3,2,none⟩) N (cap3-2),.int .i64 m.z,.int .u32 0] 76)).drew)
    have G4:=zid (show ((w3.alloc (.cells #[.int .i64 m.v,.slice (some ⟨g3,2,none⟩) N (cap3-2),.int .i64 m.z,.int .u32 0] 76)).drew).heap[w3.heap.size]?=some (.cells #[.int .i64 m.v,.slice (some ⟨g3,2,none⟩) N (cap3-2),.int .i64 m.z,.int .u32 ((C4/256^4:Nat):Int)] 76 (0,0)) from by
     rw [Nat.div_eq_of_lt (by omega)]
     exact heap_alloc_new w3 _)
    clear k0 kz n0 nz k1 HOW HOW2;generalize (w3.alloc (.cells #[.int .i64 m.v,.slice (some ⟨g3,2,none⟩) N (cap3-2),.int .i64 m.z,.int .u32 0] 76)).drew=w4 at D4 G4 ⊢
    have HIS:=zid (show ∀W:World,Below w3.heap.size w3 W->IsL IL W (.slice (some ⟨g3,2,none⟩) N (cap3-2)) m.l from fun W hW=>by
     have e0:nums m=(nums m).take i++[f]:=by rw [<-HTKI.out,h2,HNA.out]
     have o1:OwnL IL w3 w1.heap.size (.slice (some ⟨g3,0,none⟩) (N+3) cap3) (nums m):=by
      show World.ownsRow w3 _ _ _ _ _ _
      have e1:IL.vals (nums m)=xs++[.int .i64 f]:=by rw [e0,IL.vals_append,IL.vals_one,HXS.out];rfl
      rw [e1,nums_len,HNL.out, <-h2];exact HO3.out
     have i1:=o1.is (by rw [nums_len,HNL.out];unfold maxLen;omega) (fun n hn=>by have:=HNN.out n hn;exact ⟨by omega,by omega⟩);have i2:=(i1.take (show N+2<=N+3 by omega)).drop (k:=2) (by omega) (cap3-2) (by have:=i1.room;omega) (a:=some ⟨g3,2,none⟩) (.inl rfl);rw [show N+2-2=N from by omega] at i2
     have e3:((nums m).take (N+2)).drop 2=m.l:=by
      unfold nums;rw [List.take_succ_cons,List.take_succ_cons,List.drop_succ_cons,List.drop_succ_cons,List.drop_zero, <-HNL.out,List.take_left' rfl]
     rw [e3] at i2
     exact i2.keep hW)
    have HSS:=zid (show (⟨(Fr.fr (body m)).toArray⟩:ByteArray)=s from by rw [<-HSB.out]);have HXL:=zid (show w.heap.size<w3.heap.size from by have:=(Array.getElem?_eq_some_iff.1 G1.out).1;have:=HB3.out.size;omega);have HTB2:=zid (show w1.heap.size<=w3.heap.size from HB3.out.size);obtain ⟨tb,htb⟩:∃tb,w3.heap.size=tb:=⟨_,rfl⟩;rw [htb] at G4 D4 HIS HXL HTB2 ⊢;have HTB:=zid htb;clear htb
    go_loopw [13] (fun x wr=>∃k:Nat,k<=4/\x= .int .i64 ((k:Int)-1)/\wr.heap[tb]?=some (.cells #[.int .i64 m.v,.slice (some ⟨g3,2,none⟩) N (cap3-2),.int .i64 m.z,.int .u32 ((C4/256^k:Nat):Int)] 76 (0,0))/\Below tb w3 wr) (fun x _=>(intOf x+1).toNat)
    case atStart=>exact ⟨4,by omega,rfl,G4.out,D4.out⟩
    case round=>
     obtain ⟨k,hk4,rfl,hG,hD⟩:=hrel;have HG:=zid hG;have HD:=zid hD;obtain ⟨y0,y1,y2,y3⟩:=cells4 hG;obtain ⟨f0,f1,f2,f3⟩:=zcD hG;clear hD
     cases k with
     | zero=>
      rw [Nat.pow_zero,Nat.div_one] at y3;have hIS:=HIS.out wr HD.out;have PT:=zeS (some ⟨g3,2,none⟩) N (cap3-2) m wr hIS HM.out;unfold mnVal putVal10 at PT;rw [HC4.out,putM_yes HM.out] at PT;dsimp only at PT;rw [HSS.out] at PT;replace PT:=zid PT;have hxl:=HXL.out;have htl:tb<wr.heap.size:=(Array.getElem?_eq_some_iff.1 hG).1;clear hG hIS;go_wp2_with fail;refine PT.out.mono ?_;rintro e w5 ⟨rfl,b5⟩;have G5:=zid ((b5.block tb htl).trans HG.out);obtain ⟨x0,x1,x2,x3⟩:=cells4 G5.out;rw [Nat.pow_zero,Nat.div_one] at x3;have GB:=zid ((b5.block w.heap.size (by omega)).trans ((HD.out.block w.heap.size hxl).trans ((HB3.out.block w.heap.size (Array.getElem?_eq_some_iff.1 G1.out).1).trans G1.out)));obtain ⟨z0,z1,z2,z3⟩:=cells4 GB.out;obtain ⟨e0,e1,e2,e3⟩:=zcD GB.out
      have hne:tb≠w.heap.size:=by omega
      have hne2:w.heap.size≠tb:=by omega
      have HBF:=zid (B1.out.trans ((HB3.out.trans ((HD.out.trans (b5.mono (by omega))).mono HTB2.out)).mono hs1))
      have HIF:=zid (zle (W':=((((w5.setCell ⟨w.heap.size,0,none⟩ (.int .i64 m.v)).setCell ⟨w.heap.size,1,none⟩ (.slice (some ⟨g3,2,none⟩) N (cap3-2))).setCell ⟨w.heap.size,2,none⟩ (.int .i64 m.z)).setCell ⟨w.heap.size,3,none⟩ (.int .u32 (C4:Int)))) ((HIS.out wr HD.out).keep b5) (by
       have hgw:g3≠w.heap.size:=by have:=(Array.getElem?_eq_some_iff.1 G1.out).1;omega
       rw [Deep.blk_setCell_other _ _ _ _ hgw,Deep.blk_setCell_other _ _ _ _ hgw,Deep.blk_setCell_other _ _ _ _ hgw,Deep.blk_setCell_other _ _ _ _ hgw]))
      clear b5 y0 y1 y2 y3 f0 f1 f2 f3;go_wp2_with fail;refine bodyPost_ret (v:= .tuple #[.agg #[.int .i64 m.v,.slice (some ⟨g3,2,none⟩) N (cap3-2),.int .i64 m.z,.int .u32 (C4:Int)],.int .i64 0]) (by simp [results,Tryz.results49,go_sem,z0,z1,z2,z3]) rfl ?_;exact ⟨some ⟨g3,2,none⟩,N,cap3-2,by unfold mnVal;dsimp only;rw [HC4.out],HIF.out,zdi HBF.out (Nat.le_refl _) _ _ _ _⟩
     | succ k=>
      have hqk:q+k<B.size:=by have:=HQ4.out;omega
      obtain ⟨a,ha⟩:∃a,C4/256^(k+1)=a:=⟨_,rfl⟩;rw [ha] at y3;have HG2:=zid (show wr.heap[tb]?=some (.cells #[.int .i64 m.v,.slice (some ⟨g3,2,none⟩) N (cap3-2),.int .i64 m.z,.int .u32 (a:Int)] 76 (0,0)) from by rw [<-ha];exact HG.out)
      have ux:((k+1:Nat):Int)-1=(k:Int):=by omega
      rw [ux]
      have u1:(q:Int)+(k:Int)<(B.size:Int):=by omega
      have u2:IntKind.i64.wrap ((q:Int)+(k:Int))=(q:Int)+(k:Int):=IntWalk.i64_in _ ⟨by omega,by omega⟩
      have u3:((q:Int)+(k:Int)).toNat=q+k:=by omega
      have u4:(0:Int)<=(q:Int)+(k:Int):=by omega
      obtain ⟨y,hy⟩:∃y,(B[q+k]'hqk).toNat=y:=⟨_,rfl⟩
      have hy2:y=C4/256^k%256:=by
       have hl:B.data.toList=puts (nums m)++Fr.four C4:=by
        rw [<-HBB.out];show body m=_;unfold body;rw [HC4.out];rfl
       have hql:q=(puts (nums m)).length:=by rw [<-HQ.out,h2,HPA.out]
       have:=byte_get hl (k:=k) (by rw [Fr.four_len];omega) (by rw [<-hql];exact hqk);rw [four_get C4 hC5 k (by omega)] at this;rw [<-hy, <-this]
       congr 2
       rw [hql]
      have hay:a*256+y=C4/256^k:=by
       rw [hy2, <-ha,Nat.pow_succ, <-Nat.div_div_eq_div_mul];omega
      have hle:C4/256^k<=C4:=Nat.div_le_self _ _;have HVL2:=zid (show ((a:Int)*256+(y:Int))%4294967296=((C4/256^k:Nat):Int) by rw [<-hay];omega);have u5:IntKind.u32.wrap ((a:Int)*256)=(a:Int)*256:=IntWalk.u32_in _ ⟨by omega,by omega⟩;have u6:IntKind.u32.wrap ((a:Int)*256+(y:Int))=(a:Int)*256+(y:Int):=IntWalk.u32_in _ ⟨by omega,by omega⟩;clear hG hy2 hay hle ha ux;go_wp2_with fail
      go_region
      go_wp2_with fail
      go_roundw
      case rel=>
       refine ⟨k,by omega,by go_num,?_,(HD.out.setCell (p:=⟨tb,3,none⟩) (Nat.le_refl _) _).drew⟩;rw [HVL2.out];exact heap_setCell_same wr tb 3 _ _ _ HG2.out
      case measure=>simp [intOf]
end Mfs
end Go.Proofs.YtgmppfpllogdcaaGreat

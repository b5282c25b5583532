/-
  Parts of what the laws of this seat stand on:DiskFew,DiskRef,DiskRef2,DiskRef3.
-/
import Derived.Test.YtgmppfpllogdcaaGreatBi1
import Derived.BigQuiet
import Derived.Deep.RegionLaw
import Derived.Deep.RegionWith
import Derived.Test.YtgmppfpllogdcaaGreatBi11
set_option maxRecDepth 100000
set_option maxHeartbeats 6400000
namespace Go.Proofs.YtgmppfpllogdcaaGreat
namespace Dsk
open Go.RowKit Dp
theorem rarm_val (fv:Value) (D:Dk) (k:Int) (w:World) (hv:IsL FL w fv D.f):
 Calls Tryz.prog 19 #[zac fv D,.int .i64 k] w fun e w'=>e= .returned (zac fv (arm D k))/\Below w.heap.size w w':=by
 obtain ⟨fa,fn,fc,rfl⟩:∃a n c,fv= .slice a n c:=by obtain ⟨a,c,h,_⟩:=hv;exact ⟨a,_,c,h⟩
 clear hv;unfold zac
 go_enter Tryz.func19,Tryz.ntmps19
 go_wp2_with fail;refine bodyPost_ret (v:= .agg #[.slice fa fn fc,.int .i64 D.c,.bool (decide (0<=k)),.int .i64 (max k 0),.bool D.x]) (by simp [results,Tryz.results19,go_sem]) rfl ?_;exact ⟨rfl,((Below.refl _ _).alloc (Nat.le_refl _) _).alloc (by simp) _⟩
theorem rlimit_val (fv:Value) (D:Dk) (k:Int) (w:World) (hv:IsL FL w fv D.f):
 Calls Tryz.prog 24 #[zac fv D,.int .i64 k] w fun e w'=>e= .returned (zac fv (limit D k))/\Below w.heap.size w w':=by
 obtain ⟨fa,fn,fc,rfl⟩:∃a n c,fv= .slice a n c:=by obtain ⟨a,c,h,_⟩:=hv;exact ⟨a,_,c,h⟩
 clear hv;unfold zac
 go_enter Tryz.func24,Tryz.ntmps24
 go_wp2_with fail;refine bodyPost_ret (v:= .agg #[.slice fa fn fc,.int .i64 (max k 0),.bool D.a,.int .i64 D.l,.bool D.x]) (by simp [results,Tryz.results24,go_sem]) rfl ?_;exact ⟨rfl,((Below.refl _ _).alloc (Nat.le_refl _) _).alloc (by simp) _⟩
def zby (l:List Fl) (n:ByteArray):Value:=match get l n with | none=> .tuple #[.string ⟨#[]⟩,.int .i64 7] | some f=> .tuple #[.string f.d,.int .i64 0]
theorem zch {l:List Fl} {n:ByteArray} (h:get l n=none):zby l n= .tuple #[.string ⟨#[]⟩,.int .i64 7]:=by unfold zby;rw [h]
theorem zbT {l:List Fl} {n:ByteArray} {f:Fl} (h:get l n=some f):zby l n= .tuple #[.string f.d,.int .i64 0]:=by unfold zby;rw [h]
theorem read_any (fv:Value) (D:Dk) (n:ByteArray) (w:World) (hv:IsL FL w fv D.f) (hu:Up D.f) (hl:D.f.length<=1000000000):
 Calls Tryz.prog 147 #[zac fv D,.string n] w fun e w'=>e= .returned (zby D.f n)/\Below w.heap.size w w':=by
 obtain ⟨fa,fn,fc,rfl⟩:∃a n c,fv= .slice a n c:=by obtain ⟨a,c,h,_⟩:=hv;exact ⟨a,_,c,h⟩
 have F:=zid fun (W:World) (h:IsL FL W (.slice fa fn fc) D.f)=>zbN _ D.f n W hu (by omega) h;have HV:=zid hv;have G0:=zid (heap_alloc_new w (.cells #[.slice fa fn fc,.int .i64 D.c,.bool D.a,.int .i64 D.l,.bool D.x] 27))
 cases hg:get D.f n with
 | none=>
  rw [zch hg];have HG:=zid fun i b (h:FoundF D.f n i b)=>zdx h hu hg;clear hv hu hl hg;unfold zac
  go_enter Tryz.func147,Tryz.ntmps147
  go_wp2_with fail;refine (F.out _ (HV.out.keep ((Below.refl _ _).alloc (Nat.le_refl _) _))).mono ?_;rintro e w1 ⟨i,b,rfl,hf,b1⟩;obtain rfl:=HG.out i b hf;have HB:=zid (zap b1);clear hf b1;go_wp2_with fail;go_ret2;exact ⟨rfl,HB.out⟩
 | some f=>
  rw [zbT hg];have HG:=zid fun i b (h:FoundF D.f n i b)=>zcn h hu hg
  have HC:=zid (show ∀i,i<D.f.length->∃b off,fa=some ⟨b,off,none⟩/\w.cell? ⟨b,off+i*3+1,none⟩=some (.string (D.f.getD i zero).d) from fun i hi=>by
   have hv':=hv;obtain ⟨a',cap',e,_,_,h3⟩:=hv
   injection e with e1 e2 e3
   rcases h3 with h3 | ⟨b,off,h4,_⟩
   · rw [h3] at hi;simp at hi
   · subst e1
     subst h4
     exact ⟨b,off,rfl,(at3 hv' (by omega)).2.1⟩)
  have HN:=zid hv.len.1
  have hl':(D.f.length:Int)<=1000000000:=by omega
  clear hv hu hg;unfold zac
  go_enter Tryz.func147,Tryz.ntmps147
  go_wp2_with fail;refine (F.out _ (HV.out.keep ((Below.refl _ _).alloc (Nat.le_refl _) _))).mono ?_;rintro e w1 ⟨i,b,rfl,hf,b1⟩;obtain ⟨rfl,hi,hfe⟩:=HG.out i b hf;have HB:=zap b1;obtain ⟨q0,q1,q2,q3,q4⟩:=zaa (hkeep G0.out b1);obtain ⟨b',off,rfl,hc⟩:=HC.out i hi;rw [hfe] at hc
  have x1:w1.cell? ⟨b',off+i*3+1,none⟩=some (.string f.d):=by rw [HB.cell (p:=⟨b',off+i*3+1,none⟩) (block_lt_of_cell hc)];exact hc
  have hin:i<fn:=by rw [HN.out];exact hi
  have HB:=zid HB;clear hf b1 hc hfe;go_wp2_with fail;go_ret2;exact ⟨rfl,HB.out⟩
def zhT (f:Fl) (k:Int):Int:=max 0 (min k ((f.d.size:Int)-f.s))
theorem zki {a b:ByteArray} (h:a≠b):(a.toList==b.toList)=false:=by
 rw [Lib.toList_data,Lib.toList_data,beq_eq_false_iff_ne];exact fun e=>h (zez.2 e)
def zfJ (l:List Fl) (n:ByteArray):Int:=match l.findIdx? (fun f=>decide (f.n=n)) with | none=> -1 | some i=>(i:Int)
theorem zjL {l:List Fl} {n:ByteArray} (h:∀k,k<l.length->(l.getD k zero).n≠n):zfJ l n= -1:=by
 unfold zfJ
 rw [List.findIdx?_eq_none_iff.2 (fun f hf=>by
  obtain ⟨k,hk,rfl⟩:=List.getElem_of_mem hf;have:=h k hk;rw [zaD hk] at this
  simpa using this)]
theorem zjK {l:List Fl} {n:ByteArray} {i:Nat} (hi:i<l.length) (he:(l.getD i zero).n=n) (h:∀k,k<i->(l.getD k zero).n≠n):zfJ l n=(i:Int):=by
 unfold zfJ
 rw [List.findIdx?_eq_some_iff_getElem.2 ⟨hi,by rw [zaD hi] at he;simpa using he,fun j hj=>by
  have:=h j hj;rw [zaD (by omega)] at this
  simpa using this⟩]
theorem zb4 {l:List Fl} {n:ByteArray}:(zfJ l n= -1/\get l n=none)\/ ∃i:Nat,i<l.length/\zfJ l n=(i:Int)/\get l n=some (l.getD i zero):=by
 unfold zfJ Dp.get
 cases hf:l.findIdx? (fun f=>decide (f.n=n)) with
 | none=>
  refine .inl ⟨rfl,?_⟩;rw [List.find?_eq_none];rw [List.findIdx?_eq_none_iff] at hf;intro x hx;rw [hf x hx]
  decide
 | some i=>
  obtain ⟨hi,h1,h2⟩:=List.findIdx?_eq_some_iff_getElem.1 hf;refine .inr ⟨i,hi,rfl,?_⟩;rw [List.find?_eq_some_iff_getElem];exact ⟨by rw [zaD hi];exact h1,i,hi,(zaD hi).symm,fun j hj=>by have:=h2 j hj;simpa using this⟩
theorem zbF (fv:Value) (D:Dk) (n:ByteArray) (w:World) (hv:IsL FL w fv D.f):
 Calls Tryz.prog 72 #[zac fv D,.string n] w fun e w'=>e= .returned (.int .i64 (zfJ D.f n))/\Below w.heap.size w w':=by
 obtain ⟨fa,fn,fc,rfl⟩:∃a n c,fv= .slice a n c:=by obtain ⟨a,c,h,_⟩:=hv;exact ⟨a,_,c,h⟩
 have HV:=zid hv;have hl:=hv.len.2;obtain rfl:fn=D.f.length:=hv.len.1;unfold maxLen at hl;obtain ⟨fl,dc,da,dl,dx⟩:=D;dsimp only at*;clear hv;have HN:=zid (@zjL fl n);have HS:=zid fun i=> @zjK fl n i;obtain ⟨R,hR⟩:∃R,zfJ fl n=R:=⟨_,rfl⟩;rw [hR] at HN ⊢;simp only [hR] at HS;clear hR;obtain ⟨len,hlen⟩:∃len,fl.length=len:=⟨_,rfl⟩;rw [hlen] at hl HN HS HV ⊢;clear hlen;unfold zac;dsimp only;have G0:=zid (heap_alloc_new w (.cells #[.slice fa len fc,.int .i64 dc,.bool da,.int .i64 dl,.bool dx] 27));obtain ⟨p0,p1,p2,p3,p4⟩:=zaa G0.out;have B0:=zid ((Below.refl _ w).alloc (Nat.le_refl _) (.cells #[.slice fa len fc,.int .i64 dc,.bool da,.int .i64 dl,.bool dx] 27))
 go_enter Tryz.func72,Tryz.ntmps72
 go_wp2_with fail;generalize w.alloc _=w0 at G0 B0 p0 p1 p2 p3 p4 ⊢
 go_loopw [5] (fun i wr=>∃k:Nat,k<=len/\i= .int .i64 k/\wr=w0/\∀j,j<k->(fl.getD j zero).n≠n) (fun i _=>len-(intOf i).toNat)
 case atStart=>exact ⟨0,Nat.zero_le _,rfl,rfl,fun j hj=>absurd hj (Nat.not_lt_zero _)⟩
 case round=>
  obtain ⟨k,hk,rfl,rfl,hno⟩:=hrel
  by_cases hlt:k<len
  · obtain ⟨b,off,rfl⟩:∃b off,fa=some ⟨b,off,none⟩:=by
     obtain ⟨a',cap',e,_,_,h3⟩:=HV.out
     injection e with e1 e2 e3
     rcases h3 with h3 | ⟨b,off,h4,_⟩
     · rw [h3] at e2;simp at e2;omega
     · exact ⟨b,off,e1.trans h4⟩
    obtain ⟨c0,_,_⟩:=at3 (HV.out.keep B0.out) hlt
    by_cases he:(fl.getD k zero).n=n
    · have HE:=zid (HS.out k hlt he hno)
      have heq:(fl.getD k zero).n=n:=he
      generalize (fl.getD k zero).n=nm at*;subst heq;clear HS HN;go_wp2_with fail;go_ret;refine ⟨?_,B0.out⟩;rw [HE.out]
      rfl
    · have hbn:=zki he
      have HNO:=zid (show ∀j,j<k+1->(fl.getD j zero).n≠n from fun j hj=>by
       by_cases h:j=k
       · rw [h];exact he
       · exact hno j (by omega))
      clear hno;generalize (fl.getD k zero).n=nm at c0 hbn he;go_wp2_with fail
      go_roundw
      case rel=>exact ⟨k+1,by omega,by go_num,by first | rfl | trivial,HNO.out⟩
      case measure=>simp [intOf];omega
  · have HE:=zid (HN.out fun j hj=>hno j (by omega))
    clear hno
    go_wp2_with fail;go_ret;refine ⟨?_,B0.out⟩;rw [HE.out]
    rfl
theorem rread_any (fv:Value) (D:Dk) (n:ByteArray) (w:World) (hv:IsL FL w fv D.f):
 Calls Tryz.prog 47 #[zac fv D,.string n] w fun e w'=>e= .returned (zby D.f n)/\Below w.heap.size w w':=by
 obtain ⟨fa,fn,fc,rfl⟩:∃a n c,fv= .slice a n c:=by obtain ⟨a,c,h,_⟩:=hv;exact ⟨a,_,c,h⟩
 have F:=fun (W:World) (h:IsL FL W (.slice fa fn fc) D.f)=>zbF (.slice fa fn fc) D n W h;unfold zac at F;have HV:=zid hv;have hl:=hv.len.2;unfold maxLen at hl;have G0:=zid (heap_alloc_new w (.cells #[.slice fa fn fc,.int .i64 D.c,.bool D.a,.int .i64 D.l,.bool D.x] 27))
 rcases @zb4 D.f n with ⟨hf,hg⟩ | ⟨i,hi,hf,hg⟩
 · rw [zch hg]
   rw [hf] at F
   have F:=zid F;clear hv hl hg hf;unfold zac
   go_enter Tryz.func47,Tryz.ntmps47
   go_wp2_with fail;refine (F.out _ (HV.out.keep ((Below.refl _ _).alloc (Nat.le_refl _) _))).mono ?_;rintro e w1 ⟨rfl,b1⟩;have HB:=zid (zap b1);clear b1;go_wp2_with fail;go_ret2;exact ⟨rfl,HB.out⟩
 · obtain ⟨f,hfe⟩:∃f,D.f.getD i zero=f:=⟨_,rfl⟩
   rw [hfe] at hg
   rw [zbT hg];rw [hf] at F;have F:=zid F
   obtain ⟨b',off,rfl,hc⟩:∃b off,fa=some ⟨b,off,none⟩/\w.cell? ⟨b,off+i*3+1,none⟩=some (.string f.d):=by
    rw [<-hfe];have hv':=hv;obtain ⟨a',cap',e,_,_,h3⟩:=hv
    injection e with e1 e2 e3
    rcases h3 with h3 | ⟨b,off,h4,_⟩
    · rw [h3] at hi;simp at hi
    · subst e1
      subst h4
      exact ⟨b,off,rfl,(at3 hv' (by omega)).2.1⟩
   have hin:i<fn:=by have:=hv.len.1;omega
   have hfn:fn<=9223372036854775807:=by have:=hv.len.1;omega
   clear hv hg hf hl hfe;unfold zac
   go_enter Tryz.func47,Tryz.ntmps47
   go_wp2_with fail;refine (F.out _ (HV.out.keep ((Below.refl _ _).alloc (Nat.le_refl _) _))).mono ?_;rintro e w1 ⟨rfl,b1⟩;have HB:=zap b1;obtain ⟨q0,q1,q2,q3,q4⟩:=zaa (hkeep G0.out b1)
   have x1:w1.cell? ⟨b',off+i*3+1,none⟩=some (.string f.d):=by rw [HB.cell (p:=⟨b',off+i*3+1,none⟩) (block_lt_of_cell hc)];exact hc
   have HB:=zid HB;clear b1 hc;go_wp2_with fail;go_ret2;exact ⟨rfl,HB.out⟩
theorem zb3 {w:World} {fa:Option Addr} {fn fc:Nat} {l:List Fl} (h:IsL FL w (.slice fa fn fc) l) {i:Nat} (hi:i<fn):
 ∃b off,fa=some ⟨b,off,none⟩/\w.cell? ⟨b,off+i*3,none⟩=some (.string (l.getD i zero).n)/\w.cell? ⟨b,off+i*3+1,none⟩=some (.string (l.getD i zero).d)/\w.cell? ⟨b,off+i*3+2,none⟩=some (.int .i64 (l.getD i zero).s):=by
 have h':=h;obtain ⟨a',cap',e,_,_,h3⟩:=h
 injection e with e1 e2 e3
 rcases h3 with h3 | ⟨b,off,h4,_⟩
 · rw [h3] at e2;simp at e2;omega
 · subst e1
   subst h4
   exact ⟨b,off,rfl,at3 h' hi⟩
theorem zkm (fv:Value) (D:Dk) (w:World) (hv:IsL FL w fv D.f) (hs:used D.f<=4000000000000000000):
 Calls Tryz.prog 82 #[zac fv D] w fun e w'=>e= .returned (.int .i64 (used D.f:Int))/\Below w.heap.size w w':=by
 obtain ⟨fa,fn,fc,rfl⟩:∃a n c,fv= .slice a n c:=by obtain ⟨a,c,h,_⟩:=hv;exact ⟨a,_,c,h⟩
 have hl:=hv.len.2;unfold maxLen at hl;obtain ⟨fl,dc,da,dl,dx⟩:=D;dsimp only at*;have HV:=zid hv;have hfl:=hv.len.1;have HT:=zid fun k (hk:k<fl.length)=>zfU (z:=zero) hk;have HE:=zid fun k=>zdM fl k;have HA:=zid (show ∀k,fl.length<=k->used (fl.take k)=used fl from fun k hk=>by rw [List.take_of_length_le hk]);obtain ⟨u,hu⟩:∃u,used fl=u:=⟨_,rfl⟩;rw [hu] at hs HE HA ⊢;have H0:=zid (show used (fl.take 0)=0 from rfl);rw [<-hfl] at hl HT HA;clear hu hfl hv;unfold zac;dsimp only;have G0:=zid (heap_alloc_new w (.cells #[.slice fa fn fc,.int .i64 dc,.bool da,.int .i64 dl,.bool dx] 27));obtain ⟨p0,p1,p2,p3,p4⟩:=zaa G0.out;have B0:=zid ((Below.refl _ w).alloc (Nat.le_refl _) (.cells #[.slice fa fn fc,.int .i64 dc,.bool da,.int .i64 dl,.bool dx] 27))
 go_enter Tryz.func82,Tryz.ntmps82
 go_wp2_with fail;generalize w.alloc _=w0 at G0 B0 p0 p1 p2 p3 p4 ⊢
 go_loopw [3,4] (fun s i wr=>∃k:Nat,k<=fn/\i= .int .i64 k/\s= .int .i64 (used (fl.take k):Int)/\wr=w0) (fun _ i _=>fn-(intOf i).toNat)
 case atStart=>exact ⟨0,Nat.zero_le _,rfl,by rw [H0.out];rfl,rfl⟩
 case round=>
  obtain ⟨k,hk,rfl,rfl,rfl⟩:=hrel
  by_cases hlt:k<fn
  · obtain ⟨b,off,rfl,_,c1,_⟩:=zb3 (HV.out.keep B0.out) hlt
    have ht:=HT.out k hlt
    have hle:=HE.out (k+1);obtain ⟨m,hm⟩:∃m,used (fl.take k)=m:=⟨_,rfl⟩;rw [hm] at ht ⊢;have HM:=zid ht;rw [ht] at hle;clear ht hm;generalize (fl.getD k zero).d=d at*;go_wp2_with fail
    go_roundw
    case rel=>exact ⟨k+1,by omega,by go_num,by rw [HM.out];go_num,by first | rfl | trivial⟩
    case measure=>simp [intOf];omega
  · have HF:=zid (HA.out k (by omega))
    go_wp2_with fail
    go_ret;refine ⟨?_,B0.out⟩;rw [HF.out]
    rfl
theorem wo_take {l:List Fl} {n:ByteArray} {k:Nat} {z:Fl} (h:k<l.length):without (l.take (k+1)) n=without (l.take k) n++(if (l.getD k z).n=n then [] else [l.getD k z]):=by
 rw [zbv (z:=z) h];unfold without;rw [List.filter_append]
 congr 1
 by_cases he:(l.getD k z).n=n
 · rw [if_pos he,List.filter_cons_of_neg (by simpa using he)];rfl
 · rw [if_neg he,List.filter_cons_of_pos (by simpa using he)];rfl
theorem zcJ (fv:Value) (l:List Fl) (n:ByteArray) (w:World) (hv:IsL FL w fv l) (hl:l.length<=1000000000):
 Calls Tryz.prog 74 #[fv,.string n] w (OutL FL w w.heap.size (without l n)):=by
 obtain ⟨i0,hi0,hz0,hz1,hz2⟩:=info_parts zdd
 obtain ⟨fa,fn,fc,rfl⟩:∃a n c,fv= .slice a n c:=by obtain ⟨a,c,h,_⟩:=hv;exact ⟨a,_,c,h⟩
 have HV:=zid hv;have hfl:=hv.len.1;have HT:=zid fun k (hk:k<l.length)=>wo_take (n:=n) (z:=zero) hk;have HA:=zid (show ∀k,l.length<=k->without (l.take k) n=without l n from fun k hk=>by rw [List.take_of_length_le hk]);have HLEN:=zid (show ∀k,(without (l.take k) n).length<=k from fun k=>Nat.le_trans (List.length_filter_le _ _) (by rw [List.length_take];omega));rw [<-hfl] at hl HT HA;clear hfl hv
 go_enter Tryz.func74,Tryz.ntmps74
 go_wp2_with fail
 go_loopw [5,6] (fun s i wr=>∃k:Nat,k<=fn/\i= .int .i64 k/\OwnL FL wr w.heap.size s (without (l.take k) n)/\Below w.heap.size w wr) (fun _ i _=>fn-(intOf i).toNat)
 case atStart=>exact ⟨0,Nat.zero_le _,rfl,OwnL.nil _ _,Below.refl _ _⟩
 case round=>
  obtain ⟨k,hk,rfl,hO,bel⟩:=hrel;have HO:=zid hO;clear hO
  by_cases hlt:k<fn
  · obtain ⟨b,off,rfl,c0,c1,c2⟩:=zb3 (HV.out.keep bel) hlt
    have HTk:=HT.out k hlt
    have hlk:=HLEN.out k;have hbel:=bel.size;generalize l.getD k zero=f at*;generalize without (l.take k) n=L at*
    by_cases he:f.n=n
    · rw [if_pos he,List.append_nil] at HTk
      have HTk:=zid HTk
      generalize hfn:f.n=fnm at c0;rw [hfn] at he;subst he;clear hfn;go_wp2_with fail
      go_roundw
      case rel=>exact ⟨k+1,by omega,by go_num,by rw [HTk.out];exact HO.out,bel⟩
      case measure=>simp [intOf];omega
    · rw [if_neg he] at HTk
      have HTk:=zid HTk
      have hbn:=zki he;have HF:Hid (∀v' w3,w3.ownsRow w.heap.size 82 3 v' (L.length+1) (FL.vals L++zaj f)->OwnL FL w3 w.heap.size v' (L++[f])):=fun v' w3 h=>OwnL.snoc (n:=L.length) h rfl rfl;have HOX:=zid (show (wr.alloc (.cells (zaj f).toArray 82)).ownsRow w.heap.size 82 3 _ L.length (FL.vals L) from HO.out.alloc _);have HLT:=zid fun k' (h:_)=>HO.out.lt k' h;have HBW:=zid (bel.alloc hbel (.cells (zaj f).toArray 82));have HNEW:=zid (zar wr wr.heap.size (zaj f) 82 rfl);have H1:=zid (show ∀u∈zaj f,u.oneCell'=true from FL.one f);generalize hxs:FL.vals L=xs at*;generalize hll:L.length=ll at*;clear hxs hll
      go_wp2_with (at_builtin;refine wpList_append_own _ rfl _ _ 25 rfl w.heap.size 82 i0 (.agg #[.string ByteArray.empty,.string ByteArray.empty,.int .i64 0]) 3 40 Tryz.underlying25 hi0 hz0 hz1 hz2 rfl (by decide) _ _ _ rfl HOX.out ⟨wr.heap.size,0,none⟩ 1 1 (zaj f) rfl rfl HNEW.out H1.out (by unfold maxLen;omega) (by omega) (by simp;omega) ?_;intro v' w3 hown' hgrow3 hnil3)
      go_roundw
      case rel=>
       exact ⟨k+1,by omega,by go_num,by rw [HTk.out];exact HF.out v' w3 hown',HBW.out.grown hgrow3 (by simp;omega) (fun q hq=>(HLT.out q hq).1)⟩
      case measure=>simp [intOf];omega
  · have HF:=HA.out k (by omega)
    have HOO:=HO.out
    rw [HF] at HOO;have HG:=zid (fun v (h:OwnL FL wr w.heap.size v (without l n))=>OutL.mk h bel);have HOO:=zid HOO;clear HF;go_wp2_with fail;go_ret;exact HG.out _ HOO.out
theorem zgJ:∀(a b:List UInt8),Op.bytesLess a b=decide (a<b)
 | [],[]=>rfl
 | [],_::_=>by simp [Op.bytesLess]
 | _::_,[]=>by simp [Op.bytesLess]
 | x::a,y::b=>by
  have ih:=zgJ a b;simp only [Op.bytesLess,ih,List.cons_lt_cons_iff]
  by_cases h1:x<y
  · simp [h1]
  · by_cases h2:x=y
    · simp [h2]
    · simp [h1,h2]
theorem zk9 (a b:ByteArray):Op.bytesLess a.toList b.toList=decide (Lt a b):=by
 rw [Lib.toList_data,Lib.toList_data,zgJ]
 rfl
theorem with_wo (l:List Fl) (f:Fl):withF (without l f.n) f=withF l f:=by
 unfold withF without;rw [List.filter_filter,List.filter_filter]
 congr 1
 · congr 1
   refine List.filter_congr fun g _=>?_
   by_cases h:Lt g.n f.n
   · simp [h,h.ne]
   · simp [h]
 · refine List.filter_congr fun g _=>?_
   by_cases h:Lt f.n g.n
   · have h2:¬g.n=f.n:=fun e=>h.ne e.symm
     simp [h,h2]
   · simp [h]
theorem zcR {W:World} {blk base:Nat} (h:W.heap[blk]?=some (.cells #[] 82 (0,0))) (hb:base<=blk):W.ownsRow base 82 3 (.slice (some ⟨blk,0,none⟩) 0 0) 0 []:=
 ⟨rfl,.inr ⟨blk,0,#[],rfl,hb,h,Nat.le_refl _,Nat.zero_le _,rfl,rfl⟩⟩
theorem zdC {W:World} {blk:Nat} {cs:List Value} {T:TypeId} (h:W.heap[blk]?=some (.cells cs.toArray T (0,0))):∀(j:Nat) (u:Value),cs[j]?=some u->W.cell? ((⟨blk,0,none⟩:Addr).add j)=some u:=by
 intro j u hj;rw [zak,zcZ h]
 simpa using hj
theorem zdT {w0:World} (o:Obj):Below w0.heap.size w0 (w0.alloc o).drew:=((Below.refl _ w0).alloc (Nat.le_refl _) o).drew
theorem zba {w0:World} (o o':Obj):Below w0.heap.size w0 ((w0.alloc o).alloc o').drew:=(((Below.refl _ w0).alloc (Nat.le_refl _) o).alloc (by simp) o').drew
theorem hp_a {w0:World} (o:Obj):(w0.alloc o).drew.heap[w0.heap.size]?=some o:=heap_alloc_new w0 o
theorem ze6 {w0:World} (o o':Obj):((w0.alloc o).alloc o').drew.heap[w0.heap.size]?=some o:=halloc (o:=o') (heap_alloc_new w0 o)
theorem ze5 {w0:World} (o o':Obj):((w0.alloc o).alloc o').drew.heap[w0.heap.size+1]?=some o':=by
 have:=heap_alloc_new (w0.alloc o) o'
 rwa [show (w0.alloc o).heap.size=w0.heap.size+1 from by simp] at this
theorem zcK (fv:Value) (l:List Fl) (f:Fl) (w:World) (hv:IsL FL w fv l) (hu:Up l) (hl:l.length<=1000000):
 Calls Tryz.prog 83 #[fv,.agg #[.string f.n,.string f.d,.int .i64 f.s]] w (OutL FL w w.heap.size (withF l f)):=by
 obtain ⟨i0,hi0,hz0,hz1,hz2⟩:=info_parts zdd
 obtain ⟨fa,fn,fc,rfl⟩:∃a n c,fv= .slice a n c:=by obtain ⟨a,c,h,_⟩:=hv;exact ⟨a,_,c,h⟩
 have W:=zid fun (W:World) (h:IsL FL W (.slice fa fn fc) l)=>zcJ _ l f.n W h (by omega);have hwl:(without l f.n).length<=l.length:=List.length_filter_le _ _;have HLB:=zid (show ∀x∈without l f.n,FlB x from fun x hx=>hv.ok x (zaJ.1 hx).1)
 have HNE:=zid (show ∀k,k<(without l f.n).length->((without l f.n).getD k zero).n≠f.n from fun k hk=>by
  rw [zaD hk];exact (zaJ.1 (List.getElem_mem hk)).2)
 have HUP:=zid (hu.without f.n);have HW:=zid (with_wo l f);have HV:=zid hv;generalize without l f.n=L at*;generalize withF l f=R at*
 have hLl:L.length<=1000000:=by omega
 clear hv hu hl hwl;have G0:=zid (heap_alloc_new w (.cells #[.string f.n,.string f.d,.int .i64 f.s] 82))
 go_enter Tryz.func83,Tryz.ntmps83
 go_wp2_with fail;refine (W.out _ (HV.out.keep ((Below.refl _ _).alloc (Nat.le_refl _) _))).mono ?_;rintro e w1 ⟨v1,rfl,ho1,b1⟩;obtain ⟨ga,gn,gc,rfl⟩:=own_slice ho1;have hI:=ho1.is (by unfold maxLen;omega) HLB.out;obtain rfl:gn=L.length:=hI.len.1
 have HGA:=zid (show (ga=none/\L.length=0/\gc=0)\/ ∃g,ga=some ⟨g,0,none⟩/\L.length<=gc/\gc<=maxLen from by
  rcases ho1.2 with ⟨h1,h2⟩ | ⟨g,cap,cur,h1,_,_,h2,h3,_⟩
  · injection h1 with h1 _ h3
    exact .inl ⟨h1,h2,h3⟩
  · injection h1 with h1 _ h4
    exact .inr ⟨g,h1,by omega,by omega⟩)
 have HI:=zid hI;have B1:=zid (zap b1);have G1:=zid (hkeep G0.out b1);obtain ⟨x0,x1,x2⟩:=cells3 G1.out;clear ho1 b1 hI;obtain ⟨len,hlen⟩:∃len,L.length=len:=⟨_,rfl⟩;rw [hlen] at HI HNE hLl HGA ⊢;have HL:=zid hlen;clear hlen;go_wp2_with fail
 go_loopw [5] (fun i wr=>∃k m:Nat,k<=len/\i= .int .i64 k/\(∀j,j<k->Lt (L.getD j zero).n f.n)/\wr=w1.drewN m) (fun i _=>len-(intOf i).toNat)
 case atStart=>exact ⟨0,0,Nat.zero_le _,rfl,fun j hj=>absurd hj (Nat.not_lt_zero _),rfl⟩
 case round=>
  obtain ⟨k,m,hk,rfl,hless,rfl⟩:=hrel
  by_cases hgo:k<len/\Lt (L.getD k zero).n f.n
  · obtain ⟨hlt,hlo⟩:=hgo
    obtain ⟨b,off,rfl,c0,_,_⟩:=zb3 HI.out hlt
    have hb:=(zk9 (L.getD k zero).n f.n).trans (decide_eq_true hlo)
    have HLS:=zid (show ∀j,j<k+1->Lt (L.getD j zero).n f.n from fun j hj=>by
     by_cases h:j=k
     · rw [h];exact hlo
     · exact hless j (by omega))
    clear hless hlo;generalize (L.getD k zero).n=nm at c0 hb;go_wp2_with fail
    go_quiet (fail)
    go_wp2_with fail
    go_roundw
    case rel=>exact ⟨k+1,_,by omega,by go_num,HLS.out,rfl⟩
    case measure=>simp [intOf];omega
  · have HF:Hid (FoundF L f.n k false):=by
     refine ⟨by rw [HL.out];exact hk,fun j hj hjk=>?_,fun j hj hkj=>?_,fun h=>(by cases h),fun _ hi he=>HNE.out k (by rw [<-HL.out];exact hi) (by rw [zaD hi];exact he)⟩
     · have:=hless j hjk
       rwa [zaD hj] at this
     · intro hlt2
       refine hgo ⟨by rw [<-HL.out];omega,?_⟩
       rw [zaD (by omega)]
       rcases Nat.lt_or_ge k j with h | h
       · exact (HUP.out.at hj h).trans hlt2
       · obtain rfl:j=k:=by omega
         exact hlt2
    have HR:Hid (R=L.take k++[f]++L.drop k):=by rw [<-HW.out];exact HF.out.with_miss HUP.out rfl
    have hex:(∃b off nm,k<len/\ga=some ⟨b,off,none⟩/\w1.cell? ⟨b,off+k*3,none⟩=some (.string nm)/\Op.bytesLess nm.toList f.n.toList=false)\/ ¬k<len:=by
     by_cases hlt:k<len
     · obtain ⟨b,off,h1,c0,_,_⟩:=zb3 HI.out hlt
       exact .inl ⟨b,off,_,hlt,h1,c0,(zk9 _ _).trans (decide_eq_false fun h=>hgo ⟨hlt,h⟩)⟩
     · exact .inr hlt
    clear hgo hless
    have hex2:(ga=none/\len=0/\gc=0/\k=0)\/ ∃g,ga=some ⟨g,0,none⟩/\len<=gc/\gc<=maxLen/\((∃nm,k<len/\w1.cell? ⟨g,k*3,none⟩=some (.string nm)/\Op.bytesLess nm.toList f.n.toList=false)\/ ¬k<len):=by
     rcases HGA.out with ⟨h1,h2,h3⟩ | ⟨g,h1,h2,h3⟩
     · exact .inl ⟨h1,h2,h3,by omega⟩
     · refine .inr ⟨g,h1,h2,h3,?_⟩
       rcases hex with ⟨b,off,nm,hlt,h4,c0,hb⟩ | hlt
       · rw [h4] at h1
         injection h1 with h1
         injection h1 with h1 h5
         subst h1 h5;exact .inl ⟨nm,hlt,by simpa using c0,hb⟩
       · exact .inr hlt
    clear hex HGA
    have HFN:Hid (∀w0:World,Below w.heap.size w w0->∀v W,W.ownsRow w0.heap.size 82 3 v (k+1+(len-k)) (FL.vals (L.take k)++zaj f++FL.vals (L.drop k))->Below w0.heap.size w0 W->OutL FL w w.heap.size R (.returned v) W):=by
     intro w0 hb0 v W ho hb
     have hlen:(L.take k++[f]++L.drop k).length=k+1+(len-k):=by simp;have:=HL.out;omega
     refine OutL.mk (zbd (B:=w0.heap.size) ?_ hb0.size) (hb0.trans (hb.mono hb0.size));rw [HR.out];unfold OwnL;rw [hlen,FL.vals_append,FL.vals_append,FL.vals_one];exact ho
    clear HR HF
    rcases hex2 with ⟨rfl,rfl,rfl,rfl⟩ | ⟨g,rfl,hgc,hgm,hcond⟩
    · have HFN0:Hid (∀w0:World,Below w.heap.size w w0->∀v W,W.ownsRow w0.heap.size 82 3 v (0+1) ([]++zaj f)->Below w0.heap.size w0 W->OutL FL w w.heap.size R (.returned v) W):=by
       intro w0 hb0 v W ho hb;have hL:L=[]:=List.length_eq_zero_iff.1 HL.out;have:=HFN.out w0 hb0 v W;rw [hL] at this;exact this (by simpa [Lay.vals] using ho) hb
      clear HFN;go_wp2_with fail
      go_quiet (fail)
      go_wp2_with fail;have bq:=zah (zae (w:=w1) m) (zae nq);have BW:=zid (B1.out.trans (bq.mono B1.out.size));obtain ⟨y0,y1,y2⟩:=cells3 (hkeep G1.out bq);have xlt:=block_lt_of_cell y0;clear x0 x1 x2 bq;generalize World.drewN _ nq=w0 at BW y0 y1 y2 xlt ⊢
      have mixed:Tryz.prog.follows Departure.mixedOrders=true:=by kernel_rfl
      have HC3:=zid (show ∀u∈zaj f,u.oneCell'=true from FL.one f)
      go_region_law_o (first | (refine zaB rfl (.tmp 30) (.tmp 32) 25 rfl w0.heap.size 82 i0 (.agg #[.string ByteArray.empty,.string ByteArray.empty,.int .i64 0]) 3 40 Tryz.underlying25 hi0 hz0 hz1 hz2 rfl (by decide) _ 0 [] (by simp [Act.eval];rfl) (by first | exact zcR (ze5 _ _) (Nat.le_succ _) | exact zcR (ze6 _ _) (Nat.le_refl _)) _ 1 1 (zaj f) (by simp [Act.eval];rfl) rfl (by first | exact zdC (ze6 _ _) | exact zdC (ze5 _ _)) HC3.out (by unfold maxLen;omega) (by omega) (zba _ _).size ?_;intro v2 w4 hown2 hg2;have B4:Below w0.heap.size w0 w4:=(by first | exact (zba _ _).grown hg2 (zba _ _).size (fun q hq=>Nat.le_of_eq (Option.some.inj hq)) | exact (zba _ _).grown hg2 (zba _ _).size (fun q hq=>Nat.le_trans (Nat.le_succ _) (Nat.le_of_eq (Option.some.inj hq))));have HR4:=zid (HFN0.out w0 BW.out _ _ hown2 B4);obtain ⟨g',cap',cur',rfl,hb',hg',hc',hm',hs',ht'⟩:=hown2.2.resolve_left (fun h=>absurd h.2 (by decide))))
      all_goals
       go_wp2_with fail
       go_ret;exact HR4.out
    · have HS1:Hid (∀w0:World,IsL FL w0 (.slice (some ⟨g,0,none⟩) len gc) L->∀W,Below w0.heap.size w0 W->∀j u,(FL.vals (L.take k))[j]?=some u->W.cell? ((⟨g,0,none⟩:Addr).add j)=some u):=fun w0 h W b=>((h.keep b).take (k:=k) (by omega)).news
      obtain ⟨A,hA,HS2⟩:∃A:Addr,(if gc=k then some (⟨g,0,none⟩:Addr) else some ⟨g,k*3,none⟩)=some A/\Hid (∀w0:World,IsL FL w0 (.slice (some ⟨g,0,none⟩) len gc) L->∀W,Below w0.heap.size w0 W->∀j u,(FL.vals (L.drop k))[j]?=some u->W.cell? (A.add j)=some u):=by
       by_cases h:gc=k
       · refine ⟨⟨g,0,none⟩,by rw [if_pos h],fun w0 _ W _ j u hj=>?_⟩
         rw [List.drop_eq_nil_of_le (by have:=HL.out;omega)] at hj
         simp [Lay.vals] at hj
       · refine ⟨⟨g,k*3,none⟩,by rw [if_neg h],fun w0 hi W b j u hj=>?_⟩
         have:=((hi.keep b).drop (k:=k) (a:=some ⟨g,0+k*3,none⟩) (by omega) (len-k) (Nat.le_refl _) (.inl rfl)).news j u hj
         simpa using this
      have HL1:=zid (show (FL.vals (L.take k)).length=k*3 by rw [vals_len,List.length_take];have:=HL.out;omega);have HL2:=zid (show (FL.vals (L.drop k)).length=(len-k)*3 by rw [vals_len,List.length_drop];have:=HL.out;omega);have HC1:=zid (show ∀u∈FL.vals (L.take k),u.oneCell'=true from FL.vals_cells _);have HC2:=zid (show ∀u∈FL.vals (L.drop k),u.oneCell'=true from FL.vals_cells _);have HC3:=zid (show ∀u∈zaj f,u.oneCell'=true from FL.one f)
      have mixed:Tryz.prog.follows Departure.mixedOrders=true:=by kernel_rfl
      have hkc:k<=gc:=by omega
      unfold maxLen at hgm
      rcases hcond with ⟨nm,hlt,c0,hb⟩ | hlt
      all_goals
       go_wp2_with fail
       go_quiet (fail)
       go_wp2_with fail;have bq:=zah (zae (w:=w1) m) (zae nq);have BW:=zid (B1.out.trans (bq.mono B1.out.size));have HI0:=zid (HI.out.keep bq);have HG0:=zid (hkeep G1.out bq);obtain ⟨y0,y1,y2⟩:=cells3 HG0.out;have xlt:=block_lt_of_cell y0;clear x0 x1 x2 bq;generalize World.drewN _ nq=w0 at BW HI0 HG0 y0 y1 y2 xlt ⊢;generalize FL.vals (L.take k)=xs1 at*;generalize FL.vals (L.drop k)=xs2 at*
       go_region_law_o (first | (refine zaB rfl (.tmp 26) (.tmp 29) 25 rfl w0.heap.size 82 i0 (.agg #[.string ByteArray.empty,.string ByteArray.empty,.int .i64 0]) 3 40 Tryz.underlying25 hi0 hz0 hz1 hz2 rfl (by decide) _ 0 [] (by simp [Act.eval];rfl) (by first | exact zcR (hp_a _) (Nat.le_refl _) | exact zcR (ze5 _ _) (Nat.le_succ _) | exact zcR (ze6 _ _) (Nat.le_refl _)) ⟨g,0,none⟩ k gc xs1 (by simp [Act.eval]) HL1.out (HS1.out w0 HI0.out _ (by first | exact zdT _ | exact zba _ _)) HC1.out (by unfold maxLen;omega) (by omega) (by first | exact (zdT _).size | exact (zba _ _).size) ?_;intro v1 w3 hown1 hg1;have B3:Below w0.heap.size w0 w3:=(by first | exact (zdT _).grown hg1 (zdT _).size (fun q hq=>Nat.le_of_eq (Option.some.inj hq)) | exact (zba _ _).grown hg1 (zba _ _).size (fun q hq=>Nat.le_of_eq (Option.some.inj hq)) | exact (zba _ _).grown hg1 (zba _ _).size (fun q hq=>Nat.le_trans (Nat.le_succ _) (Nat.le_of_eq (Option.some.inj hq))));obtain ⟨z0,z1,z2⟩:=cells3 (hkeep HG0.out B3);have xlt3:=Nat.lt_of_lt_of_le xlt B3.size) | (refine zaB rfl (.tmp 30) (.tmp 32) 25 rfl w0.heap.size 82 i0 (.agg #[.string ByteArray.empty,.string ByteArray.empty,.int .i64 0]) 3 40 Tryz.underlying25 hi0 hz0 hz1 hz2 rfl (by decide) v1 (0+k) ([]++xs1) (by simp [Act.eval]) (by first | exact hown1 | exact World.ownsRow.alloc hown1 _) _ 1 1 (zaj f) (by simp [Act.eval];rfl) rfl (by first | exact zar w3 _ (zaj f) _ rfl | exact zdC ((hg1.block _ (by first | (simp;done) | (simp;omega)) (fun e=>Nat.succ_ne_self _ (Option.some.inj e).symm)).trans (ze6 _ _)) | exact zdC ((hg1.block _ (by first | (simp;done) | (simp;omega)) (fun e=>Nat.succ_ne_self _ (Option.some.inj e))).trans (ze5 _ _))) HC3.out (by unfold maxLen;omega) (by omega) (by first | exact B3.size | exact Nat.le_trans B3.size (by simp)) ?_;intro v2 w4 hown2 hg2;have B4:Below w0.heap.size w0 w4:=(by first | exact B3.grown hg2 B3.size (fun q hq=>(World.ownsRow.lt hown1 q hq).1) | exact (B3.alloc B3.size _).grown hg2 (Nat.le_trans B3.size (by simp)) (fun q hq=>(World.ownsRow.lt hown1 q hq).1))) | (refine zaB rfl (.tmp 33) (.tmp 36) 25 rfl w0.heap.size 82 i0 (.agg #[.string ByteArray.empty,.string ByteArray.empty,.int .i64 0]) 3 40 Tryz.underlying25 hi0 hz0 hz1 hz2 rfl (by decide) v2 (0+k+1) ([]++xs1++zaj f) (by simp [Act.eval]) hown2 A (len-k) (gc-k) xs2 (by simp [Act.eval]) HL2.out (HS2.out w0 HI0.out _ B4) HC2.out (by unfold maxLen;omega) (by omega) B4.size ?_;intro v5 w5 hown5 hg5;have B5:Below w0.heap.size w0 w5:=B4.grown hg5 B4.size (fun q hq=>(World.ownsRow.lt hown2 q hq).1)))
       all_goals
        go_wp2_with fail
        go_ret;exact HFN.out w0 BW.out _ _ (by simpa using hown5) B5
end Dsk
end Go.Proofs.YtgmppfpllogdcaaGreat

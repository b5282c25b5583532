/-
  Parts of what the laws of this seat stand on:DiskRef4,RetVal,NameLaid,NameRef.
-/
import Derived.BigQuiet
import Derived.Deep.DeepCutAuto
import Derived.Deep.RegionWith
import Derived.IntWalk
import Derived.Laws.IdiomStrings
import Derived.Lib.Strings
import Derived.Test.YtgmppfpllogdcaaGreatBi1
import Derived.Test.YtgmppfpllogdcaaGreatBi11
import Derived.Test.YtgmppfpllogdcaaGreatBi12
import Derived.Test.YtgmppfpllogdcaaGreatBi3
import Derived.Test.YtgmppfpllogdcaaGreatBi7
set_option maxRecDepth 100000
set_option maxHeartbeats 6400000
namespace Go.Proofs.YtgmppfpllogdcaaGreat
namespace Dsk
open Go.RowKit Dp
def zib (w:World) (fv:Value) (l0:List Fl) (R:Dk×Int) (e:Ending) (w':World):Prop:=∃a n c,e= .returned (.tuple #[zac (.slice a n c) R.1,.int .i64 R.2])/\KeptOr w' w.heap.size fv l0 (.slice a n c) R.1.f/\Below w.heap.size w w'
def RcTwo (w:World) (fv lv:Value) (l0 l:List Fl) (R:Dk×Int) (e:Ending) (w':World):Prop:=∃v,e= .returned (.tuple #[zac v R.1,.int .i64 R.2])/\((v=fv/\R.1.f=l0)\/(v=lv/\R.1.f=l/\R.2=0))/\Below w.heap.size w w'
theorem zbz (fa ga:Option Addr) (fn fc gn gc:Nat) (D:Dk) (l:List Fl) (own:Int) (w:World) (hD:DkB D) (h0:0<=D.l):
 Calls Tryz.prog 73 #[.agg #[.slice fa fn fc,.int .i64 D.c,.bool D.a,.int .i64 D.l,.bool D.x],.slice ga gn gc,.int .i64 own] w (RcTwo w (.slice fa fn fc) (.slice ga gn gc) D.f l (change D l own)):=by
 obtain ⟨⟨hc1,hc2⟩,hl1,hl2⟩:=hD;obtain ⟨f,c,a,d,x⟩:=D;dsimp only at*;have b2:=zid fun (A B:Array Value)=>((Below.refl w.heap.size w).alloc (Nat.le_refl _) (.cells A 27)).alloc (by simp) (.cells B 27)
 rcases zaQ ⟨f,c,a,d,x⟩ l own with ⟨e,h1⟩ | ⟨e,h1,h2⟩ | ⟨e,h1,h2,h3,h4⟩ | ⟨e,h1,h2,h3,h4⟩ | ⟨e,h1,h2,h3⟩
 all_goals
  dsimp only at*
  rw [e];clear e
 · subst h1
   go_enter Tryz.func73,Tryz.ntmps73
   go_wp2_with fail;refine bodyPost_ret (v:= .tuple #[.agg #[.slice fa fn fc,.int .i64 c,.bool a,.int .i64 d,.bool true],.int .i64 10]) (by simp [results,Tryz.results73,go_sem]) rfl ?_;exact ⟨.slice fa fn fc,rfl,.inl ⟨rfl,rfl⟩,b2.out _ _⟩
 · subst h2
   have hx:(own != 0)=true:=by simpa using h1
   go_enter Tryz.func73,Tryz.ntmps73
   go_wp2_with fail;refine bodyPost_ret (v:= .tuple #[.agg #[.slice fa fn fc,.int .i64 c,.bool a,.int .i64 d,.bool false],.int .i64 own]) (by simp [results,Tryz.results73,go_sem]) rfl ?_;exact ⟨.slice fa fn fc,rfl,.inl ⟨rfl,rfl⟩,b2.out _ _⟩
 · subst h1 h2 h3 h4
   go_enter Tryz.func73,Tryz.ntmps73
   go_wp2_with fail;refine bodyPost_ret (v:= .tuple #[.agg #[.slice fa fn fc,.int .i64 c,.bool true,.int .i64 0,.bool true],.int .i64 10]) (by simp [results,Tryz.results73,go_sem]) rfl ?_;exact ⟨.slice fa fn fc,rfl,.inl ⟨rfl,rfl⟩,b2.out _ _⟩
 · subst h1 h2 h3
   have hd0:¬(d=0):=h4
   have hd1:(d==0)=false:=by simpa using h4
   go_enter Tryz.func73,Tryz.ntmps73
   go_wp2_with fail;refine bodyPost_ret (v:= .tuple #[.agg #[.slice ga gn gc,.int .i64 c,.bool true,.int .i64 (d-1),.bool false],.int .i64 0]) (by simp [results,Tryz.results73,go_sem]) rfl ?_;exact ⟨.slice ga gn gc,rfl,.inr ⟨rfl,rfl,rfl⟩,b2.out _ _⟩
 · subst h1 h2 h3
   go_enter Tryz.func73,Tryz.ntmps73
   go_wp2_with fail;refine bodyPost_ret (v:= .tuple #[.agg #[.slice ga gn gc,.int .i64 c,.bool false,.int .i64 d,.bool false],.int .i64 0]) (by simp [results,Tryz.results73,go_sem]) rfl ?_;exact ⟨.slice ga gn gc,rfl,.inr ⟨rfl,rfl,rfl⟩,b2.out _ _⟩
theorem zhL (fv:Value) (D:Dk) (n:ByteArray) (w:World) (hv:IsL FL w fv D.f) (hS:Sm D):
 Calls Tryz.prog 34 #[zac fv D,.string n] w (zib w fv D.f (delete D n)):=by
 obtain ⟨fa,fn,fc,rfl⟩:∃a n c,fv= .slice a n c:=by obtain ⟨a,c,h,_⟩:=hv;exact ⟨a,_,c,h⟩
 have F:=fun (W:World) (h:IsL FL W (.slice fa fn fc) D.f)=>zbF (.slice fa fn fc) D n W h;have CH:=zid fun (ga:Option Addr) (gn gc:Nat) (l:List Fl) (own:Int) (W:World)=>zbz fa ga fn fc gn gc D l own W hS.b hS.l0;have WO:=zid fun (W:World) (h:IsL FL W (.slice fa fn fc) D.f)=>zcJ (.slice fa fn fc) D.f n W h (by have:=hS.n;omega);have HV:=zid hv;obtain ⟨g0,g1,gb,gs⟩:=zay w #[.slice fa fn fc,.int .i64 D.c,.bool D.a,.int .i64 D.l,.bool D.x] #[.slice none 0 0,.int .i64 0,.bool false,.int .i64 0,.bool false] 27 27;have G0:=zid g0;have G1:=zid g1;have GB:=zid gb;have GS:=zid gs;clear g0 g1 gb gs hv;unfold delete
 rcases @zb4 D.f n with ⟨hf,hg⟩ | ⟨i,hi,hf,hg⟩
 · rw [hg]
   dsimp only
   simp only [hf] at F;unfold zac at F ⊢;replace F:=zid F;clear hf hg
   go_enter Tryz.func34,Tryz.ntmps34
   go_wp2_with fail;generalize World.alloc (World.alloc w _) _=w0 at G0 G1 GB GS ⊢;refine (F.out w0 (HV.out.keep GB.out)).mono ?_;rintro e w1 ⟨rfl,b1⟩;obtain ⟨p0,p1,p2,p3,p4⟩:=zaa (hkeep G0.out b1);have G1':=zid (hkeep G1.out b1);have B1:=zid (GB.out.trans (b1.mono (by have:=GS.out;omega)))
   have hs1:w.heap.size+1<w1.heap.size:=by have:=b1.size;have:=GS.out;omega
   clear b1;go_wp2_with fail;refine (CH.out none 0 0 [] 7 w1).mono ?_;rintro e w2 ⟨v,rfl,hc2,b2⟩
   obtain ⟨xa,xn,xc,rfl⟩:∃a n c,v= .slice a n c:=by
    rcases hc2 with ⟨h,_⟩ | ⟨h,_⟩
    · exact ⟨_,_,_,h⟩
    · exact ⟨_,_,_,h⟩
   obtain ⟨q0,q1,q2,q3,q4⟩:=zaa (hkeep G1'.out b2);obtain ⟨qf0,qf1,qf2,qf3,qf4⟩:=zad (hkeep G1'.out b2);have HC2:=zid hc2;have B2:=zid (B1.out.trans (b2.mono B1.out.size));clear hc2 b2;unfold zac;go_wp2_with fail;refine bodyPost_ret (v:= .tuple #[.agg #[.slice xa xn xc,.int .i64 (change D [] 7).1.c,.bool (change D [] 7).1.a,.int .i64 (change D [] 7).1.l,.bool (change D [] 7).1.x],.int .i64 (change D [] 7).2]) (by simp [results,Tryz.results34,go_sem,q0,q1,q2,q3,q4]) rfl ?_;refine ⟨xa,xn,xc,rfl,?_,zai B2.out (Nat.le_succ _) _ _ _ _ _⟩
   rcases HC2.out with ⟨h1,h2⟩ | ⟨h1,h2,_⟩
   · exact .inl ⟨h1,h2⟩
   · rw [h1,h2]
     exact .inr (OwnL.nil _ _)
 · rw [hg]
   dsimp only
   simp only [hf] at F;unfold zac at F ⊢;replace F:=zid F
   have hil:i<=1000000:=by have:=hS.n;omega
   clear hf hg hi
   go_enter Tryz.func34,Tryz.ntmps34
   go_wp2_with fail;generalize World.alloc (World.alloc w _) _=w0 at G0 G1 GB GS ⊢;refine (F.out w0 (HV.out.keep GB.out)).mono ?_;rintro e w1 ⟨rfl,b1⟩;obtain ⟨p0,p1,p2,p3,p4⟩:=zaa (hkeep G0.out b1);have G0':=zid (hkeep (W:=w1) (W':=w1.drew) (hkeep G0.out b1) (Below.refl _ _).drew);have G1':=zid (hkeep (W:=w1) (W':=w1.drew) (hkeep G1.out b1) (Below.refl _ _).drew);have B1:=zid (show Below w.heap.size w w1.drew from (GB.out.trans (b1.mono (by have:=GS.out;omega))).drew)
   have hs1:w.heap.size+1<w1.heap.size:=by have:=b1.size;have:=GS.out;omega
   have WO0:=zid (WO.out w1.drew (HV.out.keep B1.out));clear b1 WO;go_wp2_with fail
   go_region_with (first | ((with_reducible refine WO0.out.mono ?_);rintro e w4 ⟨lv,rfl,ho4,b4⟩;obtain ⟨ga,gn,gc,rfl⟩:=own_slice ho4;have HO4:=zid ho4;obtain ⟨z0,z1,z2,z3,z4⟩:=zaa (hkeep G0'.out b4);have G14:=zid (hkeep G1'.out b4);have B4:=zid (B1.out.trans (b4.mono B1.out.size));have hs4:=b4.size;clear ho4 b4) | (go_at_call 73;refine (CH.out ga gn gc (without D.f n) 0 w4).mono ?_;rintro e w2 ⟨v,rfl,hc2,b2⟩;obtain ⟨xa,xn,xc,rfl⟩:∃a n c,v= .slice a n c:=(by rcases hc2 with ⟨h,_⟩ | ⟨h,_⟩<;>exact ⟨_,_,_,h⟩);obtain ⟨q0,q1,q2,q3,q4⟩:=zaa (hkeep G14.out b2);obtain ⟨qf0,qf1,qf2,qf3,qf4⟩:=zad (hkeep G14.out b2);have HC2:=zid hc2;have HO2:=zid (HO4.out.keep b2);have B2:=zid (B4.out.trans (b2.mono B4.out.size));clear hc2 b2;unfold zac))
   all_goals
    go_wp2_with fail
    refine bodyPost_ret (v:= .tuple #[.agg #[.slice xa xn xc,.int .i64 (change D (without D.f n) 0).1.c,.bool (change D (without D.f n) 0).1.a,.int .i64 (change D (without D.f n) 0).1.l,.bool (change D (without D.f n) 0).1.x],.int .i64 (change D (without D.f n) 0).2]) (by simp [results,Tryz.results34,go_sem,q0,q1,q2,q3,q4]) rfl ?_;refine ⟨xa,xn,xc,rfl,?_,zai B2.out (Nat.le_succ _) _ _ _ _ _⟩
    rcases HC2.out with ⟨h1,h2⟩ | ⟨h1,h2,_⟩
    · exact .inl ⟨h1,h2⟩
    · refine .inr ?_
      rw [h1,h2]
      exact zbd (zbD HO2.out (k:=w.heap.size+1) hs1 _ _ _ _ _) B1.out.size
end Dsk
namespace Rts
open Go.RowKit Rt
def zkj (m:Sg):List Value:=[.int .i64 m.b,.int .i64 m.n,.int .i64 m.z]
def SgB (m:Sg):Prop:=(-9223372036854775808<=m.b/\m.b<=9223372036854775807)/\(-9223372036854775808<=m.n/\m.n<=9223372036854775807)/\(-9223372036854775808<=m.z/\m.z<=9223372036854775807)
def SL:Lay Sg where
 enc:=zkj
 k:=3
 len:=fun _=>rfl
 one:=by intro f u hu;simp [zkj] at hu;rcases hu with rfl | rfl | rfl<;>rfl
 pos:=by decide
 T:=63
 ok:=SgB
 z:=zero
theorem zfF:(Tryz.prog.info? 63).map (fun i=>(i.zero,i.size,i.bytes))=some (some (.agg #[.int .i64 0,.int .i64 0,.int .i64 0]),3,24):=by kernel_rfl
theorem zce {w:World} {fa:Option Addr} {fn fc:Nat} {l:List Sg} (h:IsL SL w (.slice fa fn fc) l) {i:Nat} (hi:i<fn):
 ∃b off,fa=some ⟨b,off,none⟩/\w.cell? ⟨b,off+i*3,none⟩=some (.int .i64 (l.getD i zero).b)/\w.cell? ⟨b,off+i*3+1,none⟩=some (.int .i64 (l.getD i zero).n)/\w.cell? ⟨b,off+i*3+2,none⟩=some (.int .i64 (l.getD i zero).z):=by
 have h':=h;obtain ⟨a',cap',e,_,_,h3⟩:=h
 injection e with e1 e2 e3
 rcases h3 with h3 | ⟨b,off,h4,_⟩
 · rw [h3] at e2;simp at e2;omega
 · subst e1
   subst h4
   exact ⟨b,off,rfl,h'.at_ hi 0 _ rfl,h'.at_ hi 1 _ rfl,h'.at_ hi 2 _ rfl⟩
theorem zgx (v:Value) (l:List Sg) (w:World) (hv:IsL SL w v l) (hm:May l):
 Calls Tryz.prog 110 #[v] w fun e w'=>e= .returned (.int .i64 (sumZ l))/\w=w':=by
 obtain ⟨fa,fn,fc,rfl⟩:∃a n c,v= .slice a n c:=by obtain ⟨a,c,h,_⟩:=hv;exact ⟨a,_,c,h⟩
 have HV:=zid hv;have HM:=zid hm;have HL:=zid hv.len.1
 have hl4:fn<=4096:=by rw [hv.len.1];exact hm.1
 clear hv hm
 go_enter Tryz.func110,Tryz.ntmps110
 go_wp2_with fail
 go_loop [3,4] (fun n i=>∃k:Nat,k<=fn/\n= .int .i64 (sumZ (l.take k))/\i= .int .i64 k) (fun _ i=>fn-(intOf i).toNat)
 case atStart=>exact ⟨0,Nat.zero_le _,rfl,rfl⟩
 case round=>
  obtain ⟨k,hk,rfl,rfl⟩:=hrel
  by_cases hlt:k<fn
  · obtain ⟨g,off,rfl,c0,c1,c2⟩:=zce HV.out hlt
    have HS:=zid (zkg (l:=l) (k:=k) (by rw [<-HL.out];exact hlt))
    obtain ⟨s1,s2,_,_⟩:=(HM.out.take k).sums;obtain ⟨_,_,s3,s4⟩:=HM.out.at_ k;generalize sumZ (l.take k)=S at*;generalize l.getD k zero=f at*;go_wp2_with fail
    go_round
    case rel=>exact ⟨k+1,by omega,by rw [HS.out],by go_num⟩
    case measure=>simp [intOf];omega
  · obtain rfl:k=fn:=by omega
    have HE:=zid (show sumZ (l.take k)=sumZ l by rw [HL.out,List.take_length])
    go_wp2_with fail;go_ret;exact ⟨by rw [HE.out];rfl,rfl⟩
theorem zeK (v:Value) (l:List Sg) (w:World) (hv:IsL SL w v l) (hm:May l):
 Calls Tryz.prog 111 #[v] w fun e w'=>e= .returned (.int .i64 (sumN l))/\w=w':=by
 obtain ⟨fa,fn,fc,rfl⟩:∃a n c,v= .slice a n c:=by obtain ⟨a,c,h,_⟩:=hv;exact ⟨a,_,c,h⟩
 have HV:=zid hv;have HM:=zid hm;have HL:=zid hv.len.1
 have hl4:fn<=4096:=by rw [hv.len.1];exact hm.1
 clear hv hm
 go_enter Tryz.func111,Tryz.ntmps111
 go_wp2_with fail
 go_loop [3,4] (fun n i=>∃k:Nat,k<=fn/\n= .int .i64 (sumN (l.take k))/\i= .int .i64 k) (fun _ i=>fn-(intOf i).toNat)
 case atStart=>exact ⟨0,Nat.zero_le _,rfl,rfl⟩
 case round=>
  obtain ⟨k,hk,rfl,rfl⟩:=hrel
  by_cases hlt:k<fn
  · obtain ⟨g,off,rfl,c0,c1,c2⟩:=zce HV.out hlt
    have HS:=zid (zkh (l:=l) (k:=k) (by rw [<-HL.out];exact hlt))
    obtain ⟨_,_,s1,s2⟩:=(HM.out.take k).sums;obtain ⟨s3,s4,_,_⟩:=HM.out.at_ k;generalize sumN (l.take k)=S at*;generalize l.getD k zero=f at*;go_wp2_with fail
    go_round
    case rel=>exact ⟨k+1,by omega,by rw [HS.out],by go_num⟩
    case measure=>simp [intOf];omega
  · obtain rfl:k=fn:=by omega
    have HE:=zid (show sumN (l.take k)=sumN l by rw [HL.out,List.take_length])
    go_wp2_with fail;go_ret;exact ⟨by rw [HE.out];rfl,rfl⟩
theorem zhE (fa:Option Addr) (fn fc:Nat) (l:List Sg) (keep count:Int) (b:Bool) (w:World) (hv:IsL SL w (.slice fa fn fc) l) (hc:fn<=fc) (hm:May l) (hb:b=true↔Much l keep count):
 Calls Tryz.prog 89 #[.slice fa fn fc,.int .i64 keep,.int .i64 count] w fun e w'=>e= .returned (.bool b)/\w=w':=by
 have hl4:fn<=4096:=by rw [hv.len.1];exact hm.1
 have hfl:=hv.len.1
 by_cases h1:1<fn
 · have BY:=zid (zgx (.slice fa (fn-1) fc) (l.take (fn-1)) w (hv.take (Nat.sub_le _ _)) (hm.take _))
   have RE:=zid (zeK (.slice fa fn fc) l w hv hm)
   have hb2:b=true↔(keep<sumZ (l.take (fn-1))\/count<sumN l):=by
    rw [hb];unfold Much;rw [<-hfl];exact ⟨fun h=>h.2,fun h=>⟨h1,h⟩⟩
   have hsub:(fn:Int)-1=((fn-1:Nat):Int):=by omega
   generalize sumZ (l.take (fn-1))=S at*;generalize sumN l=N at*;obtain ⟨m,hmm⟩:∃m,fn-1=m:=⟨_,rfl⟩;rw [hmm] at BY hsub
   have hmf:m<=fc:=by omega
   have hmf2:m<=fn:=by omega
   clear hb hv hm hfl hmm
   by_cases h2:keep<S
   · have e2:decide (keep<S)=true:=by simpa using h2
     obtain rfl:b=true:=hb2.2 (.inl h2)
     clear hb2
     go_enter Tryz.func89,Tryz.ntmps89
     go_wp2_with fail;refine BY.out.mono ?_;rintro e w1 ⟨rfl,rfl⟩;go_wp2_with fail;go_ret;exact ⟨rfl,rfl⟩
   · have e2:decide (keep<S)=false:=by simpa using h2
     have e3:decide (count<N)=b:=by
      rw [Bool.eq_iff_iff,decide_eq_true_iff,hb2];exact ⟨.inr,fun h=>h.resolve_left h2⟩
     clear hb2
     go_enter Tryz.func89,Tryz.ntmps89
     go_wp2_with fail;refine BY.out.mono ?_;rintro e w1 ⟨rfl,rfl⟩;go_wp2_with fail;refine RE.out.mono ?_;rintro e w2 ⟨rfl,rfl⟩;go_wp2_with fail;go_ret;exact ⟨rfl,rfl⟩
 · obtain rfl:b=false:=by
    rw [<-Bool.not_eq_true,hb];exact fun h=>h1 (by rw [hfl];exact h.1)
   have e1:decide ((1:Int)<(fn:Int))=false:=by simp;omega
   clear hb hv hm hfl
   go_enter Tryz.func89,Tryz.ntmps89
   go_wp2_with fail;go_ret;exact ⟨rfl,rfl⟩
theorem zhB (fa:Option Addr) (fn fc:Nat) (l:List Sg) (keep count:Int) (p:Nat) (w:World) (hv:IsL SL w (.slice fa fn fc) l) (hc:fn<=fc) (hm:May l) (hp:IsPick l keep count p):
 Calls Tryz.prog 55 #[.slice fa fn fc,.int .i64 keep,.int .i64 count] w fun e w'=>e= .returned (.int .i64 (p:Int))/\w=w':=by
 have hl4:fn<=4096:=by rw [hv.len.1];exact hm.1
 have hfl:=hv.len.1;have HV:=zid hv;have HM:=zid hm;have hpl:=hp.lt;rw [<-hfl] at hpl
 have HP:=zid (show (0<fn->(∀b:Bool,(b=true↔Much (l.drop p) keep count)->b=false)/\∀j,j<p->∀b:Bool,(b=true↔Much (l.drop j) keep count)->b=true) from fun h0=>by
  rcases hp with ⟨rfl,rfl⟩ | ⟨_,a2,a3⟩
  · simp at hfl;omega
  · exact ⟨fun b hb=>by rw [<-Bool.not_eq_true,hb];exact a2,fun j hj b hb=>hb.2 (a3 j hj)⟩)
 have MU:=zid fun (b g:Nat) (o:Nat) (k:Nat) (x:Bool) (hk:k<fn) (ha:fa=some ⟨g,o,none⟩) (hx:x=true↔Much (l.drop k) keep count)=>zhE (some ⟨g,o+k*3,none⟩) (fn-k) (fc-k) (l.drop k) keep count x w (by
  subst ha
  exact HV.out.drop (Nat.le_of_lt hk) _ (by omega) (.inl rfl)) (by omega) (hm.drop k) hx
 obtain ⟨hp1,hp2⟩:=hpl;clear hv hm hp hfl
 go_enter Tryz.func55,Tryz.ntmps55
 go_wp2_with fail
 go_loop [7] (fun i=>∃k:Nat,k<=p/\i= .int .i64 k) (fun i=>fn-(intOf i).toNat)
 case atStart=>exact ⟨0,Nat.zero_le _,rfl⟩
 case round=>
  obtain ⟨k,hk,rfl⟩:=hrel
  by_cases h0:0<fn
  · have hlt:k<fn:=by have:=hp2 h0;omega
    have hkc:k<=fc:=by omega
    obtain ⟨g,o,rfl,_⟩:=zce HV.out hlt
    obtain ⟨x,hx⟩:∃x:Bool,x=true↔Much (l.drop k) keep count:=by
     classical exact ⟨decide (Much (l.drop k) keep count),decide_eq_true_iff⟩
    have MK:=zid (MU.out 0 g o k x hlt rfl hx)
    by_cases hkp:k=p
    · subst hkp
      obtain rfl:=(HP.out h0).1 x hx
      clear hx;go_wp2_with fail;refine MK.out.mono ?_;rintro e w1 ⟨rfl,rfl⟩;go_wp2_with fail;go_ret;exact ⟨rfl,rfl⟩
    · obtain rfl:=(HP.out h0).2 k (by omega) x hx
      clear hx
      go_wp2_with fail;refine MK.out.mono ?_;rintro e w1 ⟨rfl,rfl⟩;go_wp2_with fail
      go_round
      case rel=>exact ⟨k+1,by omega,by go_num⟩
      case measure=>simp [intOf];omega
  · obtain rfl:fn=0:=by omega
    obtain rfl:p=0:=by omega
    obtain rfl:k=0:=by omega
    go_wp2_with fail;go_ret;exact ⟨rfl,rfl⟩
end Rts
section
open Go.RowKit Go.Lib
namespace Nm
def nmV (c:UInt8) (n i:Nat):Array Value:=(Value.int .u8 (c.toNat:Int)::(List.range 13).map fun j=>Value.int .u8 ((if j<i then 0 else 48+n/10^(12-j)%10:Nat):Int)).toArray
theorem zfB (c:UInt8) (n i:Nat):(nmV c n i).size=14:=by simp [nmV]
theorem zfA (c:UInt8) (n i j:Nat) (h:j=0):(nmV c n i)[j]?=some (.int .u8 (c.toNat:Int)):=by subst h;simp [nmV]
theorem ziC {c:UInt8} {n i j:Nat} (hj:j<13):(nmV c n i)[j+1]?=some (.int .u8 ((if j<i then 0 else 48+n/10^(12-j)%10:Nat):Int)):=by
 unfold nmV;rw [List.getElem?_toArray,List.getElem?_cons_succ,List.getElem?_map,List.getElem?_range hj];rfl
theorem nmV_step {c:UInt8} {n i:Nat} (hi:i<13):(nmV c n (i+1)).setIfInBounds (i+1) (.int .u8 ((48+n/10^(12-i)%10:Nat):Int))=nmV c n i:=by
 apply Array.ext_getElem?
 intro j;rw [Array.getElem?_setIfInBounds,zfB]
 rcases Nat.eq_zero_or_pos j with h0 | h0
 · rw [if_neg (by omega),zfA _ _ _ _ h0,zfA _ _ _ _ h0]
 · obtain ⟨j,rfl⟩:∃k,j=k+1:=⟨j-1,by omega⟩
   rcases Nat.lt_or_ge j 13 with hj | hj
   · rw [ziC hj,ziC hj]
     by_cases e:i+1=j+1
     · have:i=j:=by omega
       subst this
       rw [if_pos rfl,if_pos (by omega),if_neg (by omega)]
     · rw [if_neg e]
       by_cases h:j<i
       · rw [if_pos h,if_pos (by omega)]
       · rw [if_neg h,if_neg (by omega)]
   · have hz:∀k,(nmV c n k)[j+1]?=none:=fun k=>Array.getElem?_eq_none (by rw [zfB];omega)
     rw [if_neg (by omega),hz,hz]
theorem dig_get:∀(k n j:Nat),j<k->(Np.dig k n)[j]?=some (UInt8.ofNat (48+n/10^(k-1-j)%10)):=by
 intro k
 induction k with
 | zero=>intro n j h;omega
 | succ k ih=>
  intro n j h;rw [Np.dig_cons]
  cases j with
  | zero=>simp
  | succ j=>rw [List.getElem?_cons_succ,ih n j (by omega),show k-1-j=k+1-1-(j+1) from by omega]
def cellsOf (l:List UInt8):Array Value:=(l.map fun b=>Value.int .u8 (b.toNat:Int)).toArray
theorem nmV_done (c:UInt8) (n:Nat):nmV c n 0=cellsOf (c::Np.dig 13 n):=by
 apply Array.ext_getElem?
 intro j;unfold cellsOf
 rcases Nat.eq_zero_or_pos j with h0 | h0
 · subst h0;rw [zfA _ _ _ _ rfl];simp
 · obtain ⟨j,rfl⟩:∃k,j=k+1:=⟨j-1,by omega⟩
   have e:(List.map (fun b:UInt8=>Value.int .u8 (b.toNat:Int)) (c::Np.dig 13 n)).toArray[j+1]?=(Np.dig 13 n)[j]?.map fun b=>Value.int .u8 (b.toNat:Int):=by simp
   rw [e]
   rcases Nat.lt_or_ge j 13 with hj | hj
   · rw [ziC hj,dig_get 13 n j hj,if_neg (by omega),Option.map_some,Np.digit,show 13-1-j=12-j from by omega]
   · rw [Array.getElem?_eq_none (by rw [zfB];omega),List.getElem?_eq_none (by rw [Np.dig_len];omega)];rfl
theorem conv_nm (w:World) (l:List UInt8) (T:TypeId) (hl:l.length=14):(convert 132 9 (.slice (some ⟨w.heap.size,0,none⟩) 14 14)).run Tryz.prog (w.alloc (.cells (cellsOf l) T))= .ok (.string ⟨l.toArray⟩) (w.alloc (.cells (cellsOf l) T)):=by
 have:=run_convert_bytes_back (P:=Tryz.prog) (w.alloc (.cells (cellsOf l) T)) 132 9 5 ⟨w.heap.size,0,none⟩ 14 l Tryz.underlying132 Tryz.underlying5 Tryz.underlying9 (fun j hj=>by
  rw [zak,cell_of_row _ _ _ _ _ _ (heap_alloc_new w _)]
  simp [cellsOf,hj])
 rw [hl] at this;exact this
end Nm
open Go.Proofs.YtgmppfpllogdcaaGreat.Nm
theorem zgG (n:Int) (w:World):Calls Tryz.prog 114 #[.int .i64 n] w fun e w'=>e= .returned (.bool (decide (0<=n/\n<=1099511627776)))/\w=w':=by
 by_cases h0:0<=n
 · by_cases h1:n<=1099511627776
   · rw [decide_eq_true (⟨h0,h1⟩:0<=n/\n<=1099511627776)]
     go_enter Tryz.func114,Tryz.ntmps114
     go_wp2
     go_ret;exact ⟨rfl,rfl⟩
   · rw [decide_eq_false (fun h:0<=n/\n<=1099511627776=>h1 h.2)]
     have h2:1099511627776<n:=by omega
     go_enter Tryz.func114,Tryz.ntmps114
     go_wp2
     go_ret;exact ⟨rfl,rfl⟩
 · rw [decide_eq_false (fun h:0<=n/\n<=1099511627776=>h0 h.1)]
   have h2:n<0:=by omega
   go_enter Tryz.func114,Tryz.ntmps114
   go_wp2
   go_ret;exact ⟨rfl,rfl⟩
theorem zfC {c:UInt8} {n:Int} (h:¬(0<=n/\n<=1099511627776)):Np.nameL c n=[]:=by unfold Np.nameL;rw [if_neg h]
theorem zer {c:UInt8} {n:Nat} (h:n<=1099511627776):Np.nameL c (n:Int)=c::Np.dig 13 n:=by
 unfold Np.nameL;rw [if_pos ⟨by omega,by omega⟩];simp
theorem laid_no (c:Int) (n:Int) (w:World) (h:¬(0<=n/\n<=1099511627776)):
 Calls Tryz.prog 95 #[.int .u8 c,.int .i64 n] w fun e w'=>e= .returned (.string ⟨#[]⟩)/\Below w.heap.size w w':=by
 have C1:=zgG n;rw [decide_eq_false h] at C1;have C1:=zid C1;clear h
 go_enter Tryz.func95,Tryz.ntmps95
 go_wp2_with fail;refine (C1.out _).mono ?_;rintro e w1 ⟨rfl,rfl⟩;go_wp2_with fail;go_ret;exact ⟨rfl,Below.refl _ _⟩
theorem nm_div (n k:Nat) (hk:k<13):n/10^(12-k)/10=n/10^(13-k):=by
 rw [Nat.div_div_eq_div_mul,show 13-k=12-k+1 from by omega,Nat.pow_succ]
theorem laid_yes (c:UInt8) (n:Nat) (w:World) (h:n<=1099511627776):
 Calls Tryz.prog 95 #[.int .u8 (c.toNat:Int),.int .i64 n] w fun e w'=>e= .returned (.string ⟨(c::Np.dig 13 n).toArray⟩)/\Below w.heap.size w w':=by
 have C1:=zgG (n:Int);rw [decide_eq_true (⟨by omega,by omega⟩:(0:Int)<=n/\(n:Int)<=1099511627776)] at C1;have C1:=zid C1;have hb:=c.toNat_lt
 have hbi:(c.toNat:Int)<256:=by omega
 go_enter Tryz.func95,Tryz.ntmps95
 go_wp2_with fail;refine (C1.out _).mono ?_;rintro e w1 ⟨rfl,rfl⟩;go_wp2_with fail
 go_loopw [1,6] (fun a i wr=>∃k m:Nat,k<=13/\m<=1099511627776/\a= .int .i64 m/\i= .int .i64 k/\m=n/10^(13-k)/\wr=w.alloc (.cells (nmV c n k) 150)) (fun _ i _=>(RowKit.intOf i).toNat)
 case atStart=>exact ⟨13,n,by omega,h,rfl,rfl,by simp,rfl⟩
 case round=>
  obtain ⟨k,m,hk,hm,rfl,rfl,hmn,rfl⟩:=hrel;have HM:=zid hmn;clear hmn
  by_cases h0:0<k
  · obtain ⟨k,rfl⟩:∃j,k=j+1:=⟨k-1,by omega⟩
    have hget:(nmV c n (k+1))[k+1]?=some (.int .u8 0):=by rw [ziC (by omega),if_pos (by omega)];rfl
    have HT:=zid (nmV_step (c:=c) (n:=n) (i:=k) (by omega))
    go_wp2
    go_roundw
    case rel=>
     refine ⟨k,m/10,by omega,by omega,by go_num,by go_num,?_,?_⟩
     · rw [HM.out,show 13-(k+1)=12-k from by omega,nm_div n k (by omega)]
     · rw [<-HT.out,show 12-k=13-(k+1) from by omega, <-HM.out]
       congr 3
    case measure=>simp [RowKit.intOf]
  · obtain rfl:k=0:=by omega
    have hcv:=conv_nm w (c::Np.dig 13 n) 150 (by simp [Np.dig_len])
    rw [nmV_done]
    go_wp2
    go_ret;exact ⟨rfl,(Below.refl _ _).alloc (Nat.le_refl _) _⟩
theorem ziJ (c:UInt8) (n:Int) (w:World) (h1: -9223372036854775808<=n):
 Calls Tryz.prog 95 #[.int .u8 (c.toNat:Int),.int .i64 n] w fun e w'=>e= .returned (.string ⟨(Np.nameL c n).toArray⟩)/\Below w.heap.size w w':=by
 by_cases h:0<=n/\n<=1099511627776
 · obtain ⟨n,rfl⟩:∃k:Nat,n=(k:Int):=⟨n.toNat,by omega⟩
   rw [zer (by omega)]
   exact laid_yes c n w (by omega)
 · rw [zfC h]
   exact laid_no _ n w h
theorem zkk (n:Int) (w:World) (h1: -9223372036854775808<=n):
 Calls Tryz.prog 63 #[.int .i64 n] w fun e w'=>e= .returned (.string ⟨(Np.nameL 115 n).toArray⟩)/\Below w.heap.size w w':=by
 have C1:=fun W:World=>ziJ 115 n W h1;generalize Np.nameL 115 n=l at*;rw [show (((115:UInt8).toNat:Nat):Int)=115 from rfl] at C1;have C1:=zid C1
 go_enter Tryz.func63,Tryz.ntmps63
 go_wp2_with fail;refine (C1.out _).mono ?_;rintro e w1 ⟨rfl,b1⟩;go_wp2_with fail;go_ret;exact ⟨rfl,b1⟩
theorem zim (n:Int) (w:World) (h1: -9223372036854775808<=n):
 Calls Tryz.prog 62 #[.int .i64 n] w fun e w'=>e= .returned (.string ⟨(Np.nameL 116 n).toArray⟩)/\Below w.heap.size w w':=by
 have C1:=fun W:World=>ziJ 116 n W h1;generalize Np.nameL 116 n=l at*;rw [show (((116:UInt8).toNat:Nat):Int)=116 from rfl] at C1;have C1:=zid C1
 go_enter Tryz.func62,Tryz.ntmps62
 go_wp2_with fail;refine (C1.out _).mono ?_;rintro e w1 ⟨rfl,b1⟩;go_wp2_with fail;go_ret;exact ⟨rfl,b1⟩
end
section
open Go.RowKit Go.Lib
namespace Nm
theorem conv_one (w:World) (x:Int):(convert 132 9 (.slice (some ⟨w.heap.size,0,none⟩) 1 1)).run Tryz.prog (w.alloc (.cells #[.int .u8 x] 5))=
 .ok (.string ⟨#[UInt8.ofNat x.toNat]⟩) (w.alloc (.cells #[.int .u8 x] 5)):=by
 rw [run_convert_bytes_string _ 132 9 5 _ _ _ Tryz.underlying132 Tryz.underlying5 Tryz.underlying9];rw [run_bytesToString _ _ 1 1 [x] (run_loadCells_list _ _ [Value.int .u8 x] (fun j v hj=>cell_one_new w _ _ j v hj))]
 rfl
theorem zfs (acc:List UInt8) (b:UInt8):({data:= #[b]}:ByteArray)++{data:=acc.toArray}=⟨(b::acc).toArray⟩:=ByteArray.mk_append_mk [b] acc
end Nm
open Go.Proofs.YtgmppfpllogdcaaGreat.Nm
theorem zfd (n:Nat) (w:World) (h:n<=1099511627776):
 Calls Tryz.prog 75 #[.int .i64 n] w fun e w'=>e= .returned (.string ⟨(Np.dig 13 n).toArray⟩)/\Below w.heap.size w w':=by
 have hc1:=conv_one
 go_enter Tryz.func75,Tryz.ntmps75
 go_wp2_with fail
 go_loopw [0,3,4] (fun a s i wr=>∃(k m:Nat) (l:List UInt8),k<=13/\m<=1099511627776/\l.length<=13/\a= .int .i64 m/\s= .string ⟨l.toArray⟩/\i= .int .i64 k/\l=Np.dig k n/\m=n/10^k/\Below w.heap.size w wr)
  (fun _ _ i _=>13-(RowKit.intOf i).toNat)
 case atStart=>exact ⟨0,n,[],by omega,h,by simp,rfl,rfl,rfl,rfl,by simp,Below.refl _ _⟩
 case round=>
  obtain ⟨k,m,l,hk,hm,hl,rfl,rfl,rfl,hle,hme,hb⟩:=hrel;have HL:=zid hle;have HM:=zid hme;clear hle hme
  by_cases h13:k<13
  · have hb1:({data:= #[0]}:ByteArray).size<=4:=by decide
    go_wp2
    go_roundw
    case rel=>
     refine ⟨k+1,m/10,Np.dig (k+1) n,by omega,by omega,by rw [Np.dig_len];omega,by go_num,?_,by go_num,rfl,?_,hb.alloc hb.size _⟩
     · rw [zfs,HL.out,Np.dig_cons, <-HM.out]
       refine congrArg (fun b:UInt8=>Value.string ⟨(b::Np.dig k n).toArray⟩) ?_
       rw [UInt8.ofNat_add]
       rfl
     · rw [HM.out,Nat.div_div_eq_div_mul,Nat.pow_succ]
    case measure=>simp [RowKit.intOf];omega
  · obtain rfl:k=13:=by omega
    go_wp2
    go_ret;exact ⟨by rw [HL.out];rfl,hb⟩
theorem zbq (n:Int) (w:World) (h1: -9223372036854775808<=n):
 Calls Tryz.prog 35 #[.int .i64 n] w fun e w'=>e= .returned (.string ⟨(Np.nameL 115 n).toArray⟩)/\Below w.heap.size w w':=by
 by_cases h:0<=n/\n<=1099511627776
 · obtain ⟨n,rfl⟩:∃k:Nat,n=(k:Int):=⟨n.toNat,by omega⟩
   have hn:n<=1099511627776:=by omega
   rw [zer hn];have C1:=fun W:World=>zfd n W hn;have hl:=Np.dig_len 13 n;generalize Np.dig 13 n=l at*
   have hl2:l.length<=13:=by omega
   have C1:=zid C1;have hs:({data:= #[115]}:ByteArray)++{data:=l.toArray}=⟨(115::l).toArray⟩:=zfs l 115;have HS:=zid hs;clear h hl hs
   go_enter Tryz.func35,Tryz.ntmps35
   go_wp2_with fail;refine (C1.out _).mono ?_;rintro e w1 ⟨rfl,b1⟩;go_wp2_with fail;go_ret;exact ⟨by rw [<-HS.out];rfl,b1⟩
 · rw [zfC h]
   by_cases h0:n<0
   · clear h
     go_enter Tryz.func35,Tryz.ntmps35
     go_wp2_with fail;go_ret;exact ⟨rfl,Below.refl _ _⟩
   · have h2:1099511627776<n:=by omega
     have h3:decide (n<0)=false:=by simpa using h0
     clear h h0
     go_enter Tryz.func35,Tryz.ntmps35
     go_wp2_with fail;go_ret;exact ⟨rfl,Below.refl _ _⟩
theorem zcf (n:Int) (w:World) (h1: -9223372036854775808<=n):
 Calls Tryz.prog 37 #[.int .i64 n] w fun e w'=>e= .returned (.string ⟨(Np.nameL 116 n).toArray⟩)/\Below w.heap.size w w':=by
 by_cases h:0<=n/\n<=1099511627776
 · obtain ⟨n,rfl⟩:∃k:Nat,n=(k:Int):=⟨n.toNat,by omega⟩
   have hn:n<=1099511627776:=by omega
   rw [zer hn];have C1:=fun W:World=>zfd n W hn;have hl:=Np.dig_len 13 n;generalize Np.dig 13 n=l at*
   have hl2:l.length<=13:=by omega
   have C1:=zid C1;have hs:({data:= #[116]}:ByteArray)++{data:=l.toArray}=⟨(116::l).toArray⟩:=zfs l 116;have HS:=zid hs;clear h hl hs
   go_enter Tryz.func37,Tryz.ntmps37
   go_wp2_with fail;refine (C1.out _).mono ?_;rintro e w1 ⟨rfl,b1⟩;go_wp2_with fail;go_ret;exact ⟨by rw [<-HS.out];rfl,b1⟩
 · rw [zfC h]
   by_cases h0:n<0
   · clear h
     go_enter Tryz.func37,Tryz.ntmps37
     go_wp2_with fail;go_ret;exact ⟨rfl,Below.refl _ _⟩
   · have h2:1099511627776<n:=by omega
     have h3:decide (n<0)=false:=by simpa using h0
     clear h h0
     go_enter Tryz.func37,Tryz.ntmps37
     go_wp2_with fail;go_ret;exact ⟨rfl,Below.refl _ _⟩
end
end Go.Proofs.YtgmppfpllogdcaaGreat

/-
  Parts of what the laws of this seat stand on:DiskRef7,DiskRef8,DiskRef9,DiskCrash.
-/
import Derived.Test.YtgmppfpllogdcaaGreatBi1
import Derived.BigQuiet
import Derived.Deep.DeepCutAuto
import Derived.Deep.RegionHeld3
import Derived.Deep.RegionWith
import Derived.IntWalk
import Derived.Test.YtgmppfpllogdcaaGreatBi12
import Derived.Test.YtgmppfpllogdcaaGreatBi13
import Derived.Test.YtgmppfpllogdcaaGreatBi16
set_option maxRecDepth 100000
set_option maxHeartbeats 6400000
namespace Go.Proofs.YtgmppfpllogdcaaGreat
namespace Dsk
open Go.RowKit Dp
theorem zhM (fv:Value) (D:Dk) (n:ByteArray) (w:World) (hv:IsL FL w fv D.f) (hS:Sm D) (hn:n.size<=9223372036854775807):
 Calls Tryz.prog 53 #[zac fv D,.string n] w (zib w fv D.f (create D n)):=by
 obtain ⟨fa,fn,fc,rfl⟩:∃a n c,fv= .slice a n c:=by obtain ⟨a,c,h,_⟩:=hv;exact ⟨a,_,c,h⟩
 have F:=fun (W:World) (h:IsL FL W (.slice fa fn fc) D.f)=>zbF (.slice fa fn fc) D n W h;have CH:=zid fun (ga:Option Addr) (gn gc:Nat) (l:List Fl) (own:Int) (W:World)=>zbz fa ga fn fc gn gc D l own W hS.b hS.l0;have WO:=zid fun (W:World) (h:IsL FL W (.slice fa fn fc) D.f)=>zcK (.slice fa fn fc) D.f ⟨n,⟨#[]⟩,0⟩ W h hS.r.2.1 hS.n;have M:=fun W:World=>zgE n W hn;have HV:=zid hv;obtain ⟨g0,g1,gb,gs⟩:=zay w #[.slice fa fn fc,.int .i64 D.c,.bool D.a,.int .i64 D.l,.bool D.x] #[.slice none 0 0,.int .i64 0,.bool false,.int .i64 0,.bool false] 27 27;have G0:=zid g0;have G1:=zid g1;have GB:=zid gb;have GS:=zid gs;clear g0 g1 gb gs hv;unfold create
 by_cases hN:Named n
 · rw [if_neg (fun h=>h hN)]
   rw [decide_eq_true hN] at M
   replace M:=zid M
   rcases @zb4 D.f n with ⟨hf,hg⟩ | ⟨i,hi,hf,hg⟩
   · rw [hg,if_neg (by simp)]
     simp only [hf] at F
     unfold zac at F ⊢;replace F:=zid F;clear hf hg
     go_enter Tryz.func53,Tryz.ntmps53
     go_wp2_with fail;generalize World.alloc (World.alloc w _) _=w0 at G0 G1 GB GS ⊢;refine (M.out w0).mono ?_;rintro e w1 ⟨rfl,rfl⟩;obtain ⟨p0,p1,p2,p3,p4⟩:=zaa G0.out;go_wp2_with fail;clear p0 p1 p2 p3 p4;refine (F.out w0 (HV.out.keep GB.out)).mono ?_;rintro e w1 ⟨rfl,b1⟩;obtain ⟨p0,p1,p2,p3,p4⟩:=zaa (hkeep G0.out b1);have G0':=zid (hkeep (W:=w1) (W':=w1.drew) (hkeep G0.out b1) (Below.refl _ _).drew);have G1':=zid (hkeep (W:=w1) (W':=w1.drew) (hkeep G1.out b1) (Below.refl _ _).drew);have B1:=zid (show Below w.heap.size w w1.drew from (GB.out.trans (b1.mono (by have:=GS.out;omega))).drew)
     have hs1:w.heap.size+1<w1.heap.size:=by have:=b1.size;have:=GS.out;omega
     have WO0:=zid (WO.out w1.drew (HV.out.keep B1.out));clear b1 WO;go_wp2_with fail
     go_region_with (first | ((with_reducible refine WO0.out.mono ?_);rintro e w4 ⟨lv,rfl,ho4,b4⟩;obtain ⟨ga,gn,gc,rfl⟩:=own_slice ho4;have HO4:=zid ho4;obtain ⟨z0,z1,z2,z3,z4⟩:=zaa (hkeep G0'.out b4);have G14:=zid (hkeep G1'.out b4);have B4:=zid (B1.out.trans (b4.mono B1.out.size));have hs4:=b4.size;clear ho4 b4) | (go_at_call 73;refine (CH.out ga gn gc (withF D.f ⟨n,⟨#[]⟩,0⟩) 0 w4).mono ?_;rintro e w2 ⟨v,rfl,hc2,b2⟩;obtain ⟨xa,xn,xc,rfl⟩:∃a n c,v= .slice a n c:=(by rcases hc2 with ⟨h,_⟩ | ⟨h,_⟩<;>exact ⟨_,_,_,h⟩);obtain ⟨q0,q1,q2,q3,q4⟩:=zaa (hkeep G14.out b2);obtain ⟨qf0,qf1,qf2,qf3,qf4⟩:=zad (hkeep G14.out b2);have HC2:=zid hc2;have HO2:=zid (HO4.out.keep b2);have B2:=zid (B4.out.trans (b2.mono B4.out.size));clear hc2 b2;unfold zac))
     all_goals
      go_wp2_with fail
      refine bodyPost_ret (v:= .tuple #[.agg #[.slice xa xn xc,.int .i64 (change D (withF D.f ⟨n,⟨#[]⟩,0⟩) 0).1.c,.bool (change D (withF D.f ⟨n,⟨#[]⟩,0⟩) 0).1.a,.int .i64 (change D (withF D.f ⟨n,⟨#[]⟩,0⟩) 0).1.l,.bool (change D (withF D.f ⟨n,⟨#[]⟩,0⟩) 0).1.x],.int .i64 (change D (withF D.f ⟨n,⟨#[]⟩,0⟩) 0).2]) (by simp [results,Tryz.results53,go_sem,q0,q1,q2,q3,q4]) rfl ?_;refine ⟨xa,xn,xc,rfl,?_,zai B2.out (Nat.le_succ _) _ _ _ _ _⟩
      rcases HC2.out with ⟨h1,h2⟩ | ⟨h1,h2,_⟩
      · exact .inl ⟨h1,h2⟩
      · refine .inr ?_
        rw [h1,h2]
        exact zbd (zbD HO2.out (k:=w.heap.size+1) hs1 _ _ _ _ _) B1.out.size
   · rw [hg,if_pos (by rfl)]
     simp only [hf] at F
     have hil:i<=1000000:=by have:=hS.n;omega
     unfold zac at F ⊢;replace F:=zid F;clear hf hg
     go_enter Tryz.func53,Tryz.ntmps53
     go_wp2_with fail;generalize World.alloc (World.alloc w _) _=w0 at G0 G1 GB GS ⊢;refine (M.out w0).mono ?_;rintro e w1 ⟨rfl,rfl⟩;obtain ⟨p0,p1,p2,p3,p4⟩:=zaa G0.out;go_wp2_with fail;clear p0 p1 p2 p3 p4;refine (F.out w0 (HV.out.keep GB.out)).mono ?_;rintro e w1 ⟨rfl,b1⟩;obtain ⟨p0,p1,p2,p3,p4⟩:=zaa (hkeep G0.out b1);have G1':=zid (hkeep G1.out b1);have B1:=zid (GB.out.trans (b1.mono (by have:=GS.out;omega)))
     have hs1:w.heap.size+1<w1.heap.size:=by have:=b1.size;have:=GS.out;omega
     clear b1;go_wp2_with fail;refine (CH.out none 0 0 [] 8 w1).mono ?_;rintro e w2 ⟨v,rfl,hc2,b2⟩
     obtain ⟨xa,xn,xc,rfl⟩:∃a n c,v= .slice a n c:=by
      rcases hc2 with ⟨h,_⟩ | ⟨h,_⟩
      · exact ⟨_,_,_,h⟩
      · exact ⟨_,_,_,h⟩
     obtain ⟨q0,q1,q2,q3,q4⟩:=zaa (hkeep G1'.out b2);obtain ⟨qf0,qf1,qf2,qf3,qf4⟩:=zad (hkeep G1'.out b2);have HC2:=zid hc2;have B2:=zid (B1.out.trans (b2.mono B1.out.size));clear hc2 b2;unfold zac;go_wp2_with fail;refine bodyPost_ret (v:= .tuple #[.agg #[.slice xa xn xc,.int .i64 (change D [] 8).1.c,.bool (change D [] 8).1.a,.int .i64 (change D [] 8).1.l,.bool (change D [] 8).1.x],.int .i64 (change D [] 8).2]) (by simp [results,Tryz.results53,go_sem,q0,q1,q2,q3,q4]) rfl ?_;refine ⟨xa,xn,xc,rfl,?_,zai B2.out (Nat.le_succ _) _ _ _ _ _⟩
     rcases HC2.out with ⟨h1,h2⟩ | ⟨h1,h2,_⟩
     · exact .inl ⟨h1,h2⟩
     · rw [h1,h2]
       exact .inr (OwnL.nil _ _)
 · rw [if_pos hN]
   rw [decide_eq_false hN] at M
   replace M:=zid M;unfold zac at F ⊢;clear F
   go_enter Tryz.func53,Tryz.ntmps53
   go_wp2_with fail;generalize World.alloc (World.alloc w _) _=w0 at G0 G1 GB GS ⊢;refine (M.out w0).mono ?_;rintro e w1 ⟨rfl,rfl⟩;obtain ⟨p0,p1,p2,p3,p4⟩:=zaa G0.out;have G1':=zid G1.out;have B1:=zid GB.out;go_wp2_with fail;refine (CH.out none 0 0 [] 1 w0).mono ?_;rintro e w2 ⟨v,rfl,hc2,b2⟩
   obtain ⟨xa,xn,xc,rfl⟩:∃a n c,v= .slice a n c:=by
    rcases hc2 with ⟨h,_⟩ | ⟨h,_⟩
    · exact ⟨_,_,_,h⟩
    · exact ⟨_,_,_,h⟩
   obtain ⟨q0,q1,q2,q3,q4⟩:=zaa (hkeep G1'.out b2);obtain ⟨qf0,qf1,qf2,qf3,qf4⟩:=zad (hkeep G1'.out b2);have HC2:=zid hc2;have B2:=zid (B1.out.trans (b2.mono B1.out.size));clear hc2 b2;unfold zac;go_wp2_with fail;refine bodyPost_ret (v:= .tuple #[.agg #[.slice xa xn xc,.int .i64 (change D [] 1).1.c,.bool (change D [] 1).1.a,.int .i64 (change D [] 1).1.l,.bool (change D [] 1).1.x],.int .i64 (change D [] 1).2]) (by simp [results,Tryz.results53,go_sem,q0,q1,q2,q3,q4]) rfl ?_;refine ⟨xa,xn,xc,rfl,?_,zai B2.out (Nat.le_succ _) _ _ _ _ _⟩
   rcases HC2.out with ⟨h1,h2⟩ | ⟨h1,h2,_⟩
   · exact .inl ⟨h1,h2⟩
   · rw [h1,h2]
     exact .inr (OwnL.nil _ _)
theorem zhx (fv:Value) (D:Dk) (n m:ByteArray) (w:World) (hv:IsL FL w fv D.f) (hS:Sm D) (hm:m.size<=9223372036854775807):
 Calls Tryz.prog 88 #[zac fv D,.string n,.string m] w (zib w fv D.f (rename D n m)):=by
 obtain ⟨fa,fn,fc,rfl⟩:∃a n c,fv= .slice a n c:=by obtain ⟨a,c,h,_⟩:=hv;exact ⟨a,_,c,h⟩
 have F:=fun (W:World) (h:IsL FL W (.slice fa fn fc) D.f)=>zbF (.slice fa fn fc) D n W h;have CH:=zid fun (ga:Option Addr) (gn gc:Nat) (l:List Fl) (own:Int) (W:World)=>zbz fa ga fn fc gn gc D l own W hS.b hS.l0;have WO:=zid fun (W:World) (h:IsL FL W (.slice fa fn fc) D.f)=>zcJ (.slice fa fn fc) D.f n W h (by have:=hS.n;omega);have hwl:(without D.f n).length<=D.f.length:=List.length_filter_le _ _;have RW:=zid fun (g:Fl) (ga:Option Addr) (gn gc:Nat) (W:World) (h:IsL FL W (.slice ga gn gc) (without D.f n))=>zcK (.slice ga gn gc) (without D.f n) g W h (hS.r.2.1.without n) (by have:=hS.n;omega);have HIS:=zid fun (W:World) (v:Value) (B:Nat) (h:OwnL FL W B v (without D.f n))=>h.is (by have:=hS.n;unfold maxLen;omega) (fun x hx=>hS.flb x (zaJ.1 hx).1);have M:=fun W:World=>zgE m W hm;have HFB:=zid hS.flb;have HFN:=zid hv.len.1;have HV:=zid hv;obtain ⟨g0,g1,gb,gs⟩:=zay w #[.slice fa fn fc,.int .i64 D.c,.bool D.a,.int .i64 D.l,.bool D.x] #[.slice none 0 0,.int .i64 0,.bool false,.int .i64 0,.bool false] 27 27;have G0:=zid g0;have G1:=zid g1;have GB:=zid gb;have GS:=zid gs;clear g0 g1 gb gs hv hwl;unfold rename
 rcases @zb4 D.f n with ⟨hf,hg⟩ | ⟨i,hi,hf,hg⟩
 · rw [hg]
   dsimp only
   simp only [hf] at F;unfold zac at F ⊢;replace F:=zid F;clear hf hg M
   go_enter Tryz.func88,Tryz.ntmps88
   go_wp2_with fail;generalize World.alloc (World.alloc w _) _=w0 at G0 G1 GB GS ⊢;refine (F.out w0 (HV.out.keep GB.out)).mono ?_;rintro e w1 ⟨rfl,b1⟩;obtain ⟨p0,p1,p2,p3,p4⟩:=zaa (hkeep G0.out b1);have G1':=zid (hkeep G1.out b1);have B1:=zid (GB.out.trans (b1.mono (by have:=GS.out;omega)))
   have hs1:w.heap.size+1<w1.heap.size:=by have:=b1.size;have:=GS.out;omega
   clear b1;go_wp2_with fail;refine (CH.out none 0 0 [] 7 w1).mono ?_;rintro e w2 ⟨v,rfl,hc2,b2⟩
   obtain ⟨xa,xn,xc,rfl⟩:∃a n c,v= .slice a n c:=by
    rcases hc2 with ⟨h,_⟩ | ⟨h,_⟩
    · exact ⟨_,_,_,h⟩
    · exact ⟨_,_,_,h⟩
   obtain ⟨q0,q1,q2,q3,q4⟩:=zaa (hkeep G1'.out b2);obtain ⟨qf0,qf1,qf2,qf3,qf4⟩:=zad (hkeep G1'.out b2);have HC2:=zid hc2;have B2:=zid (B1.out.trans (b2.mono B1.out.size));clear hc2 b2;unfold zac;go_wp2_with fail;refine bodyPost_ret (v:= .tuple #[.agg #[.slice xa xn xc,.int .i64 (change D [] 7).1.c,.bool (change D [] 7).1.a,.int .i64 (change D [] 7).1.l,.bool (change D [] 7).1.x],.int .i64 (change D [] 7).2]) (by simp [results,Tryz.results88,go_sem,q0,q1,q2,q3,q4]) rfl ?_;refine ⟨xa,xn,xc,rfl,?_,zai B2.out (Nat.le_succ _) _ _ _ _ _⟩
   rcases HC2.out with ⟨h1,h2⟩ | ⟨h1,h2,_⟩
   · exact .inl ⟨h1,h2⟩
   · rw [h1,h2]
     exact .inr (OwnL.nil _ _)
 · obtain ⟨f,hfe⟩:∃f,D.f.getD i zero=f:=⟨_,rfl⟩
   rw [hg]
   dsimp only;simp only [hf] at F
   have hin:i<fn:=by rw [HFN.out];exact hi
   have hfb:FlB f:=by rw [<-hfe,zaD hi];exact HFB.out _ (List.getElem_mem hi)
   have hd:=hfb.2.1
   have hil:fn<=1000000:=by have:=hS.n;have:=HFN.out;omega
   unfold zac at F ⊢;replace F:=zid F;rw [hfe]
   by_cases hN:Named m
   · rw [if_neg (fun h=>h hN)]
     rw [decide_eq_true hN] at M
     replace M:=zid M;clear hf hg hi hfb
     go_enter Tryz.func88,Tryz.ntmps88
     go_wp2_with fail;generalize World.alloc (World.alloc w _) _=w0 at G0 G1 GB GS ⊢;refine (F.out w0 (HV.out.keep GB.out)).mono ?_;rintro e w1 ⟨rfl,b1⟩;obtain ⟨p0,p1,p2,p3,p4⟩:=zaa (hkeep G0.out b1);have B1a:=GB.out.trans (b1.mono (by have:=GS.out;omega));obtain ⟨g,off,rfl,c0,c1,c2⟩:=zb3 (HV.out.keep B1a) hin;rw [hfe] at c0 c1 c2
     have hs1:w.heap.size+1<w1.heap.size:=by have:=b1.size;have:=GS.out;omega
     have hgl:=block_lt_of_cell c0;have G0w:=halloc (o:= .cells #[.string m,.string f.d,.int .i64 f.s] 82) (hkeep G0.out b1);have G1w:=halloc (o:= .cells #[.string m,.string f.d,.int .i64 f.s] 82) (hkeep G1.out b1);have GFw:=zid (heap_alloc_new w1 (.cells #[.string m,.string f.d,.int .i64 f.s] 82));have B1w:=B1a.alloc B1a.size (.cells #[.string m,.string f.d,.int .i64 f.s] 82)
     have hsw:(w1.alloc (.cells #[.string m,.string f.d,.int .i64 f.s] 82)).heap.size=w1.heap.size+1:=by simp
     have G0':=zid (hkeep G0w (Below.refl _ _).drew);have G1':=zid (hkeep G1w (Below.refl _ _).drew);have B1:=zid B1w.drew;have WO0:=zid (WO.out (w1.alloc (.cells #[.string m,.string f.d,.int .i64 f.s] 82)).drew (HV.out.keep B1.out));clear b1 WO B1a G0w G1w B1w hfe;go_wp2_with fail;refine (M.out w1).mono ?_;rintro e w1' ⟨rfl,rfl⟩;go_wp2_with fail;generalize w1.alloc _=w3 at G0' G1' GFw B1 WO0 hsw ⊢;obtain ⟨r0,r1,r2⟩:=cells3 GFw.out;obtain ⟨y0,y1,y2,y3,y4⟩:=zaa (show w3.heap[w.heap.size]?=_ from G0'.out);have GF':=zid (hkeep GFw.out (Below.refl _ _).drew)
     replace hs1:w.heap.size+1<w3.heap.size:=by omega
     clear p0 p1 p2 p3 p4 c0 c1 c2
     go_region_with (first | ((with_reducible refine WO0.out.mono ?_);rintro e w4 ⟨lv,rfl,ho4,b4⟩;obtain ⟨ga,gn,gc,rfl⟩:=own_slice ho4;have HI4:=zid (HIS.out _ _ _ ho4);have G04:=zid (hkeep G0'.out b4);obtain ⟨z0,z1,z2,z3,z4⟩:=zaa G04.out;obtain ⟨s0,s1,s2⟩:=cells3 (hkeep GF'.out b4);have G14:=zid (hkeep G1'.out b4);have B4:=zid (B1.out.trans (b4.mono B1.out.size));have hs4:=b4.size;clear ho4 b4) | (go_at_call 83;refine (RW.out ⟨m,f.d,f.s⟩ ga gn gc w4 HI4.out).mono ?_;rintro e w5 ⟨lv,rfl,ho5,b5⟩;obtain ⟨ka,kn,kc,rfl⟩:=own_slice ho5;have HO5:=zid ho5;obtain ⟨u0,u1,u2,u3,u4⟩:=zaa (hkeep G04.out b5);have G15:=zid (hkeep G14.out b5);have B5:=zid (B4.out.trans (b5.mono B4.out.size));have hs5:=b5.size;clear ho5 b5) | (go_at_call 73;refine (CH.out ka kn kc (withF (without D.f n) ⟨m,f.d,f.s⟩) 0 w5).mono ?_;rintro e w2 ⟨v,rfl,hc2,b2⟩;obtain ⟨xa,xn,xc,rfl⟩:∃a n c,v= .slice a n c:=(by rcases hc2 with ⟨h,_⟩ | ⟨h,_⟩<;>exact ⟨_,_,_,h⟩);obtain ⟨q0,q1,q2,q3,q4⟩:=zaa (hkeep G15.out b2);obtain ⟨qf0,qf1,qf2,qf3,qf4⟩:=zad (hkeep G15.out b2);have HC2:=zid hc2;have HO2:=zid (HO5.out.keep b2);have B2:=zid (B5.out.trans (b2.mono B5.out.size));clear hc2 b2;unfold zac))
     all_goals
      go_wp2_with fail
      refine bodyPost_ret (v:= .tuple #[.agg #[.slice xa xn xc,.int .i64 (change D (withF (without D.f n) ⟨m,f.d,f.s⟩) 0).1.c,.bool (change D (withF (without D.f n) ⟨m,f.d,f.s⟩) 0).1.a,.int .i64 (change D (withF (without D.f n) ⟨m,f.d,f.s⟩) 0).1.l,.bool (change D (withF (without D.f n) ⟨m,f.d,f.s⟩) 0).1.x],.int .i64 (change D (withF (without D.f n) ⟨m,f.d,f.s⟩) 0).2]) (by simp [results,Tryz.results88,go_sem,q0,q1,q2,q3,q4]) rfl ?_;refine ⟨xa,xn,xc,rfl,?_,zai B2.out (Nat.le_succ _) _ _ _ _ _⟩
      rcases HC2.out with ⟨h1,h2⟩ | ⟨h1,h2,_⟩
      · exact .inl ⟨h1,h2⟩
      · refine .inr ?_
        rw [h1,h2]
        exact zbd (zbD HO2.out (k:=w.heap.size+1) (by have:=hs4;have h3:w3.drew.heap.size=w3.heap.size:=rfl;omega) _ _ _ _ _) B4.out.size
   · rw [if_pos hN]
     rw [decide_eq_false hN] at M
     replace M:=zid M;clear hf hg hi hfb
     go_enter Tryz.func88,Tryz.ntmps88
     go_wp2_with fail;generalize World.alloc (World.alloc w _) _=w0 at G0 G1 GB GS ⊢;refine (F.out w0 (HV.out.keep GB.out)).mono ?_;rintro e w1 ⟨rfl,b1⟩;obtain ⟨p0,p1,p2,p3,p4⟩:=zaa (hkeep G0.out b1);have G1':=zid (hkeep G1.out b1);have B1:=zid (GB.out.trans (b1.mono (by have:=GS.out;omega)))
     have hs1:w.heap.size+1<w1.heap.size:=by have:=b1.size;have:=GS.out;omega
     clear b1;go_wp2_with fail;refine (M.out w1).mono ?_;rintro e w1' ⟨rfl,rfl⟩;go_wp2_with fail;refine (CH.out none 0 0 [] 1 w1).mono ?_;rintro e w2 ⟨v,rfl,hc2,b2⟩
     obtain ⟨xa,xn,xc,rfl⟩:∃a n c,v= .slice a n c:=by
      rcases hc2 with ⟨h,_⟩ | ⟨h,_⟩
      · exact ⟨_,_,_,h⟩
      · exact ⟨_,_,_,h⟩
     obtain ⟨q0,q1,q2,q3,q4⟩:=zaa (hkeep G1'.out b2);obtain ⟨qf0,qf1,qf2,qf3,qf4⟩:=zad (hkeep G1'.out b2);have HC2:=zid hc2;have B2:=zid (B1.out.trans (b2.mono B1.out.size));clear hc2 b2;unfold zac;go_wp2_with fail;refine bodyPost_ret (v:= .tuple #[.agg #[.slice xa xn xc,.int .i64 (change D [] 1).1.c,.bool (change D [] 1).1.a,.int .i64 (change D [] 1).1.l,.bool (change D [] 1).1.x],.int .i64 (change D [] 1).2]) (by simp [results,Tryz.results88,go_sem,q0,q1,q2,q3,q4]) rfl ?_;refine ⟨xa,xn,xc,rfl,?_,zai B2.out (Nat.le_succ _) _ _ _ _ _⟩
     rcases HC2.out with ⟨h1,h2⟩ | ⟨h1,h2,_⟩
     · exact .inl ⟨h1,h2⟩
     · rw [h1,h2]
       exact .inr (OwnL.nil _ _)
theorem zhN (fv:Value) (D:Dk) (n t:ByteArray) (w:World) (hv:IsL FL w fv D.f) (hS:Sm D) (ht:t.size<=1000000000):
 Calls Tryz.prog 44 #[zac fv D,.string n,.string t] w (zib w fv D.f (append D n t)):=by
 obtain ⟨fa,fn,fc,rfl⟩:∃a n c,fv= .slice a n c:=by obtain ⟨a,c,h,_⟩:=hv;exact ⟨a,_,c,h⟩
 have F:=fun (W:World) (h:IsL FL W (.slice fa fn fc) D.f)=>zbF (.slice fa fn fc) D n W h;have CH:=zid fun (ga:Option Addr) (gn gc:Nat) (l:List Fl) (own:Int) (W:World)=>zbz fa ga fn fc gn gc D l own W hS.b hS.l0;have WO:=zid fun (g:Fl) (W:World) (h:IsL FL W (.slice fa fn fc) D.f)=>zcK (.slice fa fn fc) D.f g W h hS.r.2.1 hS.n;have HFB:=zid hS.flb;have HFN:=zid hv.len.1;have HV:=zid hv;obtain ⟨g0,g1,gb,gs⟩:=zay w #[.slice fa fn fc,.int .i64 D.c,.bool D.a,.int .i64 D.l,.bool D.x] #[.slice none 0 0,.int .i64 0,.bool false,.int .i64 0,.bool false] 27 27;have G0:=zid g0;have G1:=zid g1;have GB:=zid gb;have GS:=zid gs;clear g0 g1 gb gs hv;have RU:=fun (W:World) (h:IsL FL W (.slice fa fn fc) D.f)=>zkm (.slice fa fn fc) D W h (by have:=hS.u;omega);have hU:=hS.u;obtain ⟨U,hUe⟩:∃U,used D.f=U:=⟨_,rfl⟩;rw [hUe] at RU hU;unfold zac at RU;replace RU:=zid RU;unfold append;rw [hUe];clear hUe
 rcases @zb4 D.f n with ⟨hf,hg⟩ | ⟨i,hi,hf,hg⟩
 · rw [hg]
   dsimp only
   simp only [hf] at F;unfold zac at F ⊢;replace F:=zid F;clear hf hg
   go_enter Tryz.func44,Tryz.ntmps44
   go_wp2_with fail;generalize World.alloc (World.alloc w _) _=w0 at G0 G1 GB GS ⊢;refine (F.out w0 (HV.out.keep GB.out)).mono ?_;rintro e w1 ⟨rfl,b1⟩;obtain ⟨p0,p1,p2,p3,p4⟩:=zaa (hkeep G0.out b1);have G1':=zid (hkeep G1.out b1);have B1:=zid (GB.out.trans (b1.mono (by have:=GS.out;omega)))
   have hs1:w.heap.size+1<w1.heap.size:=by have:=b1.size;have:=GS.out;omega
   clear b1;go_wp2_with fail;refine (CH.out none 0 0 [] 7 w1).mono ?_;rintro e w2 ⟨v,rfl,hc2,b2⟩
   obtain ⟨xa,xn,xc,rfl⟩:∃a n c,v= .slice a n c:=by
    rcases hc2 with ⟨h,_⟩ | ⟨h,_⟩
    · exact ⟨_,_,_,h⟩
    · exact ⟨_,_,_,h⟩
   obtain ⟨q0,q1,q2,q3,q4⟩:=zaa (hkeep G1'.out b2);obtain ⟨qf0,qf1,qf2,qf3,qf4⟩:=zad (hkeep G1'.out b2);have HC2:=zid hc2;have B2:=zid (B1.out.trans (b2.mono B1.out.size));clear hc2 b2;unfold zac;go_wp2_with fail;refine bodyPost_ret (v:= .tuple #[.agg #[.slice xa xn xc,.int .i64 (change D [] 7).1.c,.bool (change D [] 7).1.a,.int .i64 (change D [] 7).1.l,.bool (change D [] 7).1.x],.int .i64 (change D [] 7).2]) (by simp [results,Tryz.results44,go_sem,q0,q1,q2,q3,q4]) rfl ?_;refine ⟨xa,xn,xc,rfl,?_,zai B2.out (Nat.le_succ _) _ _ _ _ _⟩
   rcases HC2.out with ⟨h1,h2⟩ | ⟨h1,h2,_⟩
   · exact .inl ⟨h1,h2⟩
   · rw [h1,h2]
     exact .inr (OwnL.nil _ _)
 · obtain ⟨f,hfe⟩:∃f,D.f.getD i zero=f:=⟨_,rfl⟩
   rw [hg]
   dsimp only;simp only [hf] at F
   have hin:i<fn:=by rw [HFN.out];exact hi
   have hfb:FlB f:=by rw [<-hfe,zaD hi];exact HFB.out _ (List.getElem_mem hi)
   have hd:f.d.size<=1000000000:=by
    have h1:D.f[i]∈D.f:=List.getElem_mem hi;rw [<-zaD (z:=zero) hi,hfe] at h1;have:=zcr h1;have:=hS.u;omega
   have hil:fn<=1000000:=by have:=hS.n;have:=HFN.out;omega
   unfold zac at F ⊢;replace F:=zid F;rw [hfe];obtain ⟨R,hR⟩:∃R,(if 0<D.c/\D.c<(U:Int)+(t.size:Int) then change D [] 9 else change D (withF D.f ⟨f.n,f.d++t,f.s⟩) 0)=R:=⟨_,rfl⟩;rw [hR];have HRR:=zid hR;clear hR;clear hf hg hi hfb
   go_enter Tryz.func44,Tryz.ntmps44
   go_wp2_with fail;generalize World.alloc (World.alloc w _) _=w0 at G0 G1 GB GS ⊢;refine (F.out w0 (HV.out.keep GB.out)).mono ?_;rintro e w1 ⟨rfl,b1⟩;obtain ⟨p0,p1,p2,p3,p4⟩:=zaa (hkeep G0.out b1);have B1a:=GB.out.trans (b1.mono (by have:=GS.out;omega));obtain ⟨g,off,rfl,c0,c1,c2⟩:=zb3 (HV.out.keep B1a) hin;rw [hfe] at c0 c1 c2
   have hs1:w.heap.size+1<w1.heap.size:=by have:=b1.size;have:=GS.out;omega
   have hgl:=block_lt_of_cell c0
   have hol:w.heap.size<w1.heap.size:=by omega
   have B1A:=zid B1a;have G0b:=zid (hkeep G0.out b1);have G1b:=zid (hkeep G1.out b1);clear b1 B1a;go_wp2_with fail
   go_cut [31] (fun v w2=>v= .bool (decide (0<D.c/\D.c<(U:Int)+(t.size:Int)))/\Below w1.heap.size w1 w2)
   case first=>
    by_cases hc:0<D.c
    · have e:decide (0<D.c/\D.c<(U:Int)+(t.size:Int))=decide (D.c<(U:Int)+(t.size:Int)):=by simp [hc]
      replace e:=zid e
      have hww:=zid (IntWalk.i64_in ((U:Int)+(t.size:Int)) ⟨by omega,by omega⟩);have RU0:=zid (RU.out w1.drew (HV.out.keep B1A.out.drew))
      go_region_with ((with_reducible refine RU0.out.mono ?_);rintro e w4 ⟨rfl,b4⟩;obtain ⟨z0,z1,z2,z3,z4⟩:=zaa (hkeep (show w1.drew.heap[w.heap.size]?=_ from G0b.out) b4);have B4:=zid (show Below w1.heap.size w1 w4 from (Below.refl _ w1).drew.trans b4);clear b4)
      all_goals go_wp2_with fail
      all_goals go_meet
      all_goals
       case rel=>exact ⟨congrArg Value.bool (by rw [hww.out];exact e.out.symm),B4.out⟩
    · have e:decide (0<D.c/\D.c<(U:Int)+(t.size:Int))=false:=by simp [hc]
      replace e:=zid e
      have hd0:decide (0<D.c)=false:=by simpa using hc
      clear hc
      go_quiet (fail)
      go_wp2_with fail;go_meet
      case rel=>exact ⟨congrArg Value.bool e.out.symm,zae _⟩
   case rest=>
    obtain ⟨rfl,hbc⟩:=hcut;have G0c:=zid (hkeep G0b.out hbc);have G1c:=zid (hkeep G1b.out hbc);have B1C:=B1A.out.trans (hbc.mono B1A.out.size);have HBC:=zid B1C
    have hs1c:w.heap.size+1<wc.heap.size:=by have:=hbc.size;omega
    obtain ⟨p0,p1,p2,p3,p4⟩:=zaa G0c.out;replace c0:=(hbc.cell (p:=⟨g,_,none⟩) hgl).trans c0;replace c1:=(hbc.cell (p:=⟨g,_,none⟩) hgl).trans c1;replace c2:=(hbc.cell (p:=⟨g,_,none⟩) hgl).trans c2;have hgc:=block_lt_of_cell c0;clear hbc hs1 hgl hol B1C
    by_cases hfull:0<D.c/\D.c<(U:Int)+(t.size:Int)
    · have hRe:=HRR.out
      rw [if_pos hfull] at hRe
      subst hRe;rw [decide_eq_true hfull];clear hfull HRR c0 c1 c2;go_wp2_with fail;refine (CH.out none 0 0 [] 9 wc).mono ?_;rintro e w2 ⟨v,rfl,hc2,b2⟩
      obtain ⟨xa,xn,xc,rfl⟩:∃a n c,v= .slice a n c:=by
       rcases hc2 with ⟨h,_⟩ | ⟨h,_⟩
       · exact ⟨_,_,_,h⟩
       · exact ⟨_,_,_,h⟩
      obtain ⟨q0,q1,q2,q3,q4⟩:=zaa (hkeep G1c.out b2);obtain ⟨qf0,qf1,qf2,qf3,qf4⟩:=zad (hkeep G1c.out b2);have HC2:=zid hc2;have B2:=zid (HBC.out.trans (b2.mono HBC.out.size));clear hc2 b2;unfold zac;go_wp2_with fail;refine bodyPost_ret (v:= .tuple #[.agg #[.slice xa xn xc,.int .i64 (change D [] 9).1.c,.bool (change D [] 9).1.a,.int .i64 (change D [] 9).1.l,.bool (change D [] 9).1.x],.int .i64 (change D [] 9).2]) (by simp [results,Tryz.results44,go_sem,q0,q1,q2,q3,q4]) rfl ?_;refine ⟨xa,xn,xc,rfl,?_,zai B2.out (Nat.le_succ _) _ _ _ _ _⟩
      rcases HC2.out with ⟨h1,h2⟩ | ⟨h1,h2,_⟩
      · exact .inl ⟨h1,h2⟩
      · rw [h1,h2]
        exact .inr (OwnL.nil _ _)
    · have hRe:=HRR.out
      rw [if_neg hfull] at hRe
      subst hRe;rw [decide_eq_false hfull];clear hfull HRR;have G0w:=halloc (o:= .cells #[.string f.n,.string (f.d++t),.int .i64 f.s] 82) G0c.out;have G1w:=halloc (o:= .cells #[.string f.n,.string (f.d++t),.int .i64 f.s] 82) G1c.out;have GFw:=zid (heap_alloc_new wc (.cells #[.string f.n,.string (f.d++t),.int .i64 f.s] 82));have B1w:=HBC.out.alloc HBC.out.size (.cells #[.string f.n,.string (f.d++t),.int .i64 f.s] 82)
      have hsw:(wc.alloc (.cells #[.string f.n,.string (f.d++t),.int .i64 f.s] 82)).heap.size=wc.heap.size+1:=by simp
      have G0':=zid (hkeep G0w (Below.refl _ _).drew);have G1':=zid (hkeep G1w (Below.refl _ _).drew);have B1:=zid B1w.drew;have WO0:=zid (WO.out ⟨f.n,f.d++t,f.s⟩ (wc.alloc (.cells #[.string f.n,.string (f.d++t),.int .i64 f.s] 82)).drew (HV.out.keep B1.out));clear WO G0w G1w B1w hfe;go_wp2_with fail;generalize wc.alloc _=w3 at G0' G1' GFw B1 WO0 hsw ⊢;obtain ⟨r0,r1,r2⟩:=cells3 GFw.out;obtain ⟨y0,y1,y2,y3,y4⟩:=zaa (show w3.heap[w.heap.size]?=_ from G0'.out)
      have hs1:w.heap.size+1<w3.heap.size:=by omega
      clear p0 p1 p2 p3 p4 c0 c1 c2
      go_region_with (first | ((with_reducible refine WO0.out.mono ?_);rintro e w4 ⟨lv,rfl,ho4,b4⟩;obtain ⟨ga,gn,gc,rfl⟩:=own_slice ho4;have HO4:=zid ho4;obtain ⟨z0,z1,z2,z3,z4⟩:=zaa (hkeep G0'.out b4);have G14:=zid (hkeep G1'.out b4);have B4:=zid (B1.out.trans (b4.mono B1.out.size));have hs4:=b4.size;clear ho4 b4) | (go_at_call 73;refine (CH.out ga gn gc (withF D.f ⟨f.n,f.d++t,f.s⟩) 0 w4).mono ?_;rintro e w2 ⟨v,rfl,hc2,b2⟩;obtain ⟨xa,xn,xc,rfl⟩:∃a n c,v= .slice a n c:=(by rcases hc2 with ⟨h,_⟩ | ⟨h,_⟩<;>exact ⟨_,_,_,h⟩);obtain ⟨q0,q1,q2,q3,q4⟩:=zaa (hkeep G14.out b2);obtain ⟨qf0,qf1,qf2,qf3,qf4⟩:=zad (hkeep G14.out b2);have HC2:=zid hc2;have HO2:=zid (HO4.out.keep b2);have B2:=zid (B4.out.trans (b2.mono B4.out.size));clear hc2 b2;unfold zac))
      all_goals
       go_wp2_with fail
       refine bodyPost_ret (v:= .tuple #[.agg #[.slice xa xn xc,.int .i64 (change D (withF D.f ⟨f.n,f.d++t,f.s⟩) 0).1.c,.bool (change D (withF D.f ⟨f.n,f.d++t,f.s⟩) 0).1.a,.int .i64 (change D (withF D.f ⟨f.n,f.d++t,f.s⟩) 0).1.l,.bool (change D (withF D.f ⟨f.n,f.d++t,f.s⟩) 0).1.x],.int .i64 (change D (withF D.f ⟨f.n,f.d++t,f.s⟩) 0).2]) (by simp [results,Tryz.results44,go_sem,q0,q1,q2,q3,q4]) rfl ?_;refine ⟨xa,xn,xc,rfl,?_,zai B2.out (Nat.le_succ _) _ _ _ _ _⟩
       rcases HC2.out with ⟨h1,h2⟩ | ⟨h1,h2,_⟩
       · exact .inl ⟨h1,h2⟩
       · refine .inr ?_
         rw [h1,h2]
         exact zbd (zbD HO2.out (k:=w.heap.size+1) hs1 _ _ _ _ _) B1.out.size
def ze3 (ks:List Int) (i:Nat):Int:=ks.getD i 0
theorem zdJ:∀(l:List Fl) (ks:List Int) (i:Nat) (h:i<l.length) (h':i<(zaA l ks).length),(zaA l ks)[i]=left l[i] (ze3 ks i)
 | [],_,i,h,_=>absurd h (by simp)
 | f::l,[],0,_,_=>rfl
 | f::l,k::r,0,_,_=>rfl
 | f::l,[],i+1,h,h'=>by
  have e:=zdJ l [] i (by simpa using h) (by rw [zbB];simpa using h);simp only [zaA,List.getElem_cons_succ];rw [e]
  simp [ze3]
 | f::l,k::r,i+1,h,h'=>by
  have e:=zdJ l r i (by simpa using h) (by rw [zbB];simpa using h);simp only [zaA,List.getElem_cons_succ];rw [e]
  simp [ze3]
theorem left_val {f:Fl} (h:FOk f) (k:Int):∃m:Nat,f.s+zhT f k=(m:Int)/\m<=f.d.size/\left f k=⟨f.n,f.d.extract 0 m,m⟩:=by
 have h1:=h.2.1;have h2:=h.2.2;refine ⟨(f.s+zhT f k).toNat,by unfold zhT;omega,by unfold zhT;omega,?_⟩
 have e:(f.s+max 0 (min k ((f.d.size:Int)-f.s))).toNat<=f.d.size:=by omega
 unfold left zhT;simp only [ByteArray.size_extract]
 congr 1
 omega
def KL:Lay Int where
 enc:=fun k=>[.int .i64 k]
 k:=1
 len:=fun _=>rfl
 one:=by intro f u hu;simp at hu;rw [hu];rfl
 pos:=by decide
 T:=3
 ok:=fun k=> -9223372036854775808<=k/\k<=9223372036854775807
 z:=0
theorem kl_at {w:World} {b off n cap:Nat} {l:List Int} (h:IsL KL w (.slice (some ⟨b,off,none⟩) n cap) l) {i:Nat} (hi:i<n):w.cell? ⟨b,off+i,none⟩=some (.int .i64 (l.getD i 0)):=by
 have:=h.at_ hi 0 _ rfl
 simpa [KL] using this
end Dsk
end Go.Proofs.YtgmppfpllogdcaaGreat

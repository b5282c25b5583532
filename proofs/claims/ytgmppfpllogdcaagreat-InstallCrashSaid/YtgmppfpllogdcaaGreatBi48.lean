/-
  Parts of what the laws of this seat stand on:DiskRef6,RoRef.
-/
import Derived.Test.YtgmppfpllogdcaaGreatBi1
import Derived.Laws.OwnMore
import Derived.Test.YtgmppfpllogdcaaGreatBi14
import Derived.Test.YtgmppfpllogdcaaGreatBi16
import Derived.Test.YtgmppfpllogdcaaGreatBi21
import Derived.Test.YtgmppfpllogdcaaGreatBi28
import Derived.Test.YtgmppfpllogdcaaGreatBi29
import Derived.Test.YtgmppfpllogdcaaGreatBi47
set_option maxRecDepth 100000
set_option maxHeartbeats 6400000
namespace Go.Proofs.YtgmppfpllogdcaaGreat
namespace Dsk
open Go.RowKit Dp
theorem rcut_any (fv:Value) (D:Dk) (n:ByteArray) (k:Int) (w:World) (hv:IsL FL w fv D.f) (hS:Sm D) (hk1: -9223372036854775808<=k) (hk2:k<=9223372036854775807):
 Calls Tryz.prog 52 #[zac fv D,.string n,.int .i64 k] w (zib w fv D.f (cut D n k)):=by
 obtain ⟨fa,fn,fc,rfl⟩:∃a n c,fv= .slice a n c:=by obtain ⟨a,c,h,_⟩:=hv;exact ⟨a,_,c,h⟩
 have F:=fun (W:World) (h:IsL FL W (.slice fa fn fc) D.f)=>zbF (.slice fa fn fc) D n W h;have CH:=zid fun (ga:Option Addr) (gn gc:Nat) (l:List Fl) (own:Int) (W:World)=>zbz fa ga fn fc gn gc D l own W hS.b hS.l0;have WO:=zid fun (g:Fl) (W:World) (h:IsL FL W (.slice fa fn fc) D.f)=>zcK (.slice fa fn fc) D.f g W h hS.r.2.1 hS.n;have HFB:=zid hS.flb;have HFN:=zid hv.len.1;have HV:=zid hv;obtain ⟨g0,g1,gb,gs⟩:=zay w #[.slice fa fn fc,.int .i64 D.c,.bool D.a,.int .i64 D.l,.bool D.x] #[.slice none 0 0,.int .i64 0,.bool false,.int .i64 0,.bool false] 27 27;have G0:=zid g0;have G1:=zid g1;have GB:=zid gb;have GS:=zid gs;clear g0 g1 gb gs hv;unfold cut
 rcases @zb4 D.f n with ⟨hf,hg⟩ | ⟨i,hi,hf,hg⟩
 · rw [hg]
   dsimp only
   simp only [hf] at F;unfold zac at F ⊢;replace F:=zid F;clear hf hg
   go_enter Tryz.func52,Tryz.ntmps52
   go_wp2_with fail;generalize World.alloc (World.alloc w _) _=w0 at G0 G1 GB GS ⊢;refine (F.out w0 (HV.out.keep GB.out)).mono ?_;rintro e w1 ⟨rfl,b1⟩;obtain ⟨p0,p1,p2,p3,p4⟩:=zaa (hkeep G0.out b1);have G1':=zid (hkeep G1.out b1);have B1:=zid (GB.out.trans (b1.mono (by have:=GS.out;omega)))
   have hs1:w.heap.size+1<w1.heap.size:=by have:=b1.size;have:=GS.out;omega
   clear b1;go_wp2_with fail;refine (CH.out none 0 0 [] 7 w1).mono ?_;rintro e w2 ⟨v,rfl,hc2,b2⟩
   obtain ⟨xa,xn,xc,rfl⟩:∃a n c,v= .slice a n c:=by
    rcases hc2 with ⟨h,_⟩ | ⟨h,_⟩
    · exact ⟨_,_,_,h⟩
    · exact ⟨_,_,_,h⟩
   obtain ⟨q0,q1,q2,q3,q4⟩:=zaa (hkeep G1'.out b2);obtain ⟨qf0,qf1,qf2,qf3,qf4⟩:=zad (hkeep G1'.out b2);have HC2:=zid hc2;have B2:=zid (B1.out.trans (b2.mono B1.out.size));clear hc2 b2;unfold zac;go_wp2_with fail;refine bodyPost_ret (v:= .tuple #[.agg #[.slice xa xn xc,.int .i64 (change D [] 7).1.c,.bool (change D [] 7).1.a,.int .i64 (change D [] 7).1.l,.bool (change D [] 7).1.x],.int .i64 (change D [] 7).2]) (by simp [results,Tryz.results52,go_sem,q0,q1,q2,q3,q4]) rfl ?_;refine ⟨xa,xn,xc,rfl,?_,zai B2.out (Nat.le_succ _) _ _ _ _ _⟩
   rcases HC2.out with ⟨h1,h2⟩ | ⟨h1,h2,_⟩
   · exact .inl ⟨h1,h2⟩
   · rw [h1,h2]
     exact .inr (OwnL.nil _ _)
 · obtain ⟨f,hfe⟩:∃f,D.f.getD i zero=f:=⟨_,rfl⟩
   rw [hg]
   dsimp only;simp only [hf] at F
   have hin:i<fn:=by rw [HFN.out];exact hi
   have hfb:FlB f:=by rw [<-hfe,zaD hi];exact HFB.out _ (List.getElem_mem hi)
   have hd:=hfb.2.1
   have hil:fn<=1000000:=by have:=hS.n;have:=HFN.out;omega
   unfold zac at F ⊢;replace F:=zid F;rw [hfe]
   by_cases hx:k<0\/(f.d.size:Int)<k
   · rw [if_pos hx]
     rcases hx with hx | hx
     · skip
       clear hf hg hi hfb
       go_enter Tryz.func52,Tryz.ntmps52
       go_wp2_with fail;generalize World.alloc (World.alloc w _) _=w0 at G0 G1 GB GS ⊢;refine (F.out w0 (HV.out.keep GB.out)).mono ?_;rintro e w1 ⟨rfl,b1⟩;obtain ⟨p0,p1,p2,p3,p4⟩:=zaa (hkeep G0.out b1);have B1a:=GB.out.trans (b1.mono (by have:=GS.out;omega));obtain ⟨g,off,rfl,c0,c1,c2⟩:=zb3 (HV.out.keep B1a) hin;rw [hfe] at c0 c1 c2
       have hs1:w.heap.size+1<w1.heap.size:=by have:=b1.size;have:=GS.out;omega
       have hs0:w.heap.size<w1.heap.size:=by omega
       have hgl:=block_lt_of_cell c0;have G0w:=halloc (o:= .cells #[.string f.n,.string f.d,.int .i64 f.s] 82) (hkeep G0.out b1);have G1w:=halloc (o:= .cells #[.string f.n,.string f.d,.int .i64 f.s] 82) (hkeep G1.out b1);have GFw:=zid (heap_alloc_new w1 (.cells #[.string f.n,.string f.d,.int .i64 f.s] 82));have B1w:=B1a.alloc B1a.size (.cells #[.string f.n,.string f.d,.int .i64 f.s] 82)
       have hsw:(w1.alloc (.cells #[.string f.n,.string f.d,.int .i64 f.s] 82)).heap.size=w1.heap.size+1:=by simp
       have G0':=zid G0w;have G1':=zid G1w;have B1:=zid B1w;clear b1 WO B1a G0w G1w B1w hfe;go_wp2_with fail;generalize w1.alloc _=w3 at G0' G1' GFw B1 hsw ⊢;refine (CH.out none 0 0 [] 6 w3).mono ?_;rintro e w2 ⟨v,rfl,hc2,b2⟩
       obtain ⟨xa,xn,xc,rfl⟩:∃a n c,v= .slice a n c:=by
        rcases hc2 with ⟨h,_⟩ | ⟨h,_⟩
        · exact ⟨_,_,_,h⟩
        · exact ⟨_,_,_,h⟩
       obtain ⟨q0,q1,q2,q3,q4⟩:=zaa (hkeep G1'.out b2);obtain ⟨qf0,qf1,qf2,qf3,qf4⟩:=zad (hkeep G1'.out b2);have HC2:=zid hc2;have B2:=zid (B1.out.trans (b2.mono B1.out.size));clear hc2 b2;unfold zac;go_wp2_with fail;refine bodyPost_ret (v:= .tuple #[.agg #[.slice xa xn xc,.int .i64 (change D [] 6).1.c,.bool (change D [] 6).1.a,.int .i64 (change D [] 6).1.l,.bool (change D [] 6).1.x],.int .i64 (change D [] 6).2]) (by simp [results,Tryz.results52,go_sem,q0,q1,q2,q3,q4]) rfl ?_;refine ⟨xa,xn,xc,rfl,?_,zai B2.out (Nat.le_succ _) _ _ _ _ _⟩
       rcases HC2.out with ⟨h1,h2⟩ | ⟨h1,h2,_⟩
       · exact .inl ⟨h1,h2⟩
       · rw [h1,h2]
         exact .inr (OwnL.nil _ _)
     · have hx0:¬(k<0):=by omega
       clear hf hg hi hfb
       go_enter Tryz.func52,Tryz.ntmps52
       go_wp2_with fail;generalize World.alloc (World.alloc w _) _=w0 at G0 G1 GB GS ⊢;refine (F.out w0 (HV.out.keep GB.out)).mono ?_;rintro e w1 ⟨rfl,b1⟩;obtain ⟨p0,p1,p2,p3,p4⟩:=zaa (hkeep G0.out b1);have B1a:=GB.out.trans (b1.mono (by have:=GS.out;omega));obtain ⟨g,off,rfl,c0,c1,c2⟩:=zb3 (HV.out.keep B1a) hin;rw [hfe] at c0 c1 c2
       have hs1:w.heap.size+1<w1.heap.size:=by have:=b1.size;have:=GS.out;omega
       have hs0:w.heap.size<w1.heap.size:=by omega
       have hgl:=block_lt_of_cell c0;have G0w:=halloc (o:= .cells #[.string f.n,.string f.d,.int .i64 f.s] 82) (hkeep G0.out b1);have G1w:=halloc (o:= .cells #[.string f.n,.string f.d,.int .i64 f.s] 82) (hkeep G1.out b1);have GFw:=zid (heap_alloc_new w1 (.cells #[.string f.n,.string f.d,.int .i64 f.s] 82));have B1w:=B1a.alloc B1a.size (.cells #[.string f.n,.string f.d,.int .i64 f.s] 82)
       have hsw:(w1.alloc (.cells #[.string f.n,.string f.d,.int .i64 f.s] 82)).heap.size=w1.heap.size+1:=by simp
       have G0':=zid G0w;have G1':=zid G1w;have B1:=zid B1w;clear b1 WO B1a G0w G1w B1w hfe;go_wp2_with fail;generalize w1.alloc _=w3 at G0' G1' GFw B1 hsw ⊢;refine (CH.out none 0 0 [] 6 w3).mono ?_;rintro e w2 ⟨v,rfl,hc2,b2⟩
       obtain ⟨xa,xn,xc,rfl⟩:∃a n c,v= .slice a n c:=by
        rcases hc2 with ⟨h,_⟩ | ⟨h,_⟩
        · exact ⟨_,_,_,h⟩
        · exact ⟨_,_,_,h⟩
       obtain ⟨q0,q1,q2,q3,q4⟩:=zaa (hkeep G1'.out b2);obtain ⟨qf0,qf1,qf2,qf3,qf4⟩:=zad (hkeep G1'.out b2);have HC2:=zid hc2;have B2:=zid (B1.out.trans (b2.mono B1.out.size));clear hc2 b2;unfold zac;go_wp2_with fail;refine bodyPost_ret (v:= .tuple #[.agg #[.slice xa xn xc,.int .i64 (change D [] 6).1.c,.bool (change D [] 6).1.a,.int .i64 (change D [] 6).1.l,.bool (change D [] 6).1.x],.int .i64 (change D [] 6).2]) (by simp [results,Tryz.results52,go_sem,q0,q1,q2,q3,q4]) rfl ?_;refine ⟨xa,xn,xc,rfl,?_,zai B2.out (Nat.le_succ _) _ _ _ _ _⟩
       rcases HC2.out with ⟨h1,h2⟩ | ⟨h1,h2,_⟩
       · exact .inl ⟨h1,h2⟩
       · rw [h1,h2]
         exact .inr (OwnL.nil _ _)
   · rw [if_neg hx]
     obtain ⟨j,rfl⟩:∃j:Nat,k=(j:Int):=⟨k.toNat,by omega⟩
     have hx0:¬((j:Int)<0):=by omega
     have hx1:¬((f.d.size:Int)<(j:Int)):=by omega
     rw [Int.toNat_natCast];clear hx;clear hf hg hi hfb
     go_enter Tryz.func52,Tryz.ntmps52
     go_wp2_with fail;generalize World.alloc (World.alloc w _) _=w0 at G0 G1 GB GS ⊢;refine (F.out w0 (HV.out.keep GB.out)).mono ?_;rintro e w1 ⟨rfl,b1⟩;obtain ⟨p0,p1,p2,p3,p4⟩:=zaa (hkeep G0.out b1);have B1a:=GB.out.trans (b1.mono (by have:=GS.out;omega));obtain ⟨g,off,rfl,c0,c1,c2⟩:=zb3 (HV.out.keep B1a) hin;rw [hfe] at c0 c1 c2
     have hs1:w.heap.size+1<w1.heap.size:=by have:=b1.size;have:=GS.out;omega
     have hs0:w.heap.size<w1.heap.size:=by omega
     have hgl:=block_lt_of_cell c0;have G0w:=halloc (o:= .cells #[.string f.n,.string (f.d.extract 0 j),.int .i64 (min f.s (j:Int))] 82) (hkeep G0.out b1);have G1w:=halloc (o:= .cells #[.string f.n,.string (f.d.extract 0 j),.int .i64 (min f.s (j:Int))] 82) (hkeep G1.out b1);have GFw:=zid (heap_alloc_new w1 (.cells #[.string f.n,.string (f.d.extract 0 j),.int .i64 (min f.s (j:Int))] 82));have B1w:=B1a.alloc B1a.size (.cells #[.string f.n,.string (f.d.extract 0 j),.int .i64 (min f.s (j:Int))] 82)
     have hsw:(w1.alloc (.cells #[.string f.n,.string (f.d.extract 0 j),.int .i64 (min f.s (j:Int))] 82)).heap.size=w1.heap.size+1:=by simp
     have G0':=zid (hkeep G0w (Below.refl _ _).drew);have G1':=zid (hkeep G1w (Below.refl _ _).drew);have B1:=zid B1w.drew;have WO0:=zid (WO.out ⟨f.n,f.d.extract 0 j,min f.s (j:Int)⟩ (w1.alloc (.cells #[.string f.n,.string (f.d.extract 0 j),.int .i64 (min f.s (j:Int))] 82)).drew (HV.out.keep B1.out));clear b1 WO B1a G0w G1w B1w hfe;go_wp2_with fail;generalize w1.alloc _=w3 at G0' G1' GFw B1 WO0 hsw ⊢;obtain ⟨r0,r1,r2⟩:=cells3 GFw.out;obtain ⟨y0,y1,y2,y3,y4⟩:=zaa (show w3.heap[w.heap.size]?=_ from G0'.out)
     replace hs1:w.heap.size+1<w3.heap.size:=by omega
     clear p0 p1 p2 p3 p4 c0 c1 c2
     go_region_with (first | ((with_reducible refine WO0.out.mono ?_);rintro e w4 ⟨lv,rfl,ho4,b4⟩;obtain ⟨ga,gn,gc,rfl⟩:=own_slice ho4;have HO4:=zid ho4;obtain ⟨z0,z1,z2,z3,z4⟩:=zaa (hkeep G0'.out b4);have G14:=zid (hkeep G1'.out b4);have B4:=zid (B1.out.trans (b4.mono B1.out.size));have hs4:=b4.size;clear ho4 b4) | (go_at_call 73;refine (CH.out ga gn gc (withF D.f ⟨f.n,f.d.extract 0 j,min f.s (j:Int)⟩) 0 w4).mono ?_;rintro e w2 ⟨v,rfl,hc2,b2⟩;obtain ⟨xa,xn,xc,rfl⟩:∃a n c,v= .slice a n c:=(by rcases hc2 with ⟨h,_⟩ | ⟨h,_⟩<;>exact ⟨_,_,_,h⟩);obtain ⟨q0,q1,q2,q3,q4⟩:=zaa (hkeep G14.out b2);obtain ⟨qf0,qf1,qf2,qf3,qf4⟩:=zad (hkeep G14.out b2);have HC2:=zid hc2;have HO2:=zid (HO4.out.keep b2);have B2:=zid (B4.out.trans (b2.mono B4.out.size));clear hc2 b2;unfold zac))
     all_goals
      go_wp2_with fail
      refine bodyPost_ret (v:= .tuple #[.agg #[.slice xa xn xc,.int .i64 (change D (withF D.f ⟨f.n,f.d.extract 0 j,min f.s (j:Int)⟩) 0).1.c,.bool (change D (withF D.f ⟨f.n,f.d.extract 0 j,min f.s (j:Int)⟩) 0).1.a,.int .i64 (change D (withF D.f ⟨f.n,f.d.extract 0 j,min f.s (j:Int)⟩) 0).1.l,.bool (change D (withF D.f ⟨f.n,f.d.extract 0 j,min f.s (j:Int)⟩) 0).1.x],.int .i64 (change D (withF D.f ⟨f.n,f.d.extract 0 j,min f.s (j:Int)⟩) 0).2]) (by simp [results,Tryz.results52,go_sem,q0,q1,q2,q3,q4]) rfl ?_;refine ⟨xa,xn,xc,rfl,?_,zai B2.out (Nat.le_succ _) _ _ _ _ _⟩
      rcases HC2.out with ⟨h1,h2⟩ | ⟨h1,h2,_⟩
      · exact .inl ⟨h1,h2⟩
      · refine .inr ?_
        rw [h1,h2]
        exact zbd (zbD HO2.out (k:=w.heap.size+1) hs1 _ _ _ _ _) B1.out.size
end Dsk
namespace Ro
open Go.RowKit So Dsk Rts Sto
theorem zgm (fa:Option Addr) (fn fc:Nat) (D:Dp.Dk) (w:World) (k:Nat) (hv:IsL FL w (.slice fa fn fc) D.f) (hS:Bd D k) (hk:k<=10000):
 Calls Tryz.prog 48 #[zac (.slice fa fn fc) D] w (zdW w (.slice fa fn fc) (.slice none 0 0) (Lg.freshT D)):=by
 have C0:=zid (Cw.start (w:=w) hv #[.slice none 0 0,.int .i64 0,.bool false,.int .i64 0,.bool false,.int .i64 0,.slice none 0 0,.int .i64 0,.int .i64 0,.int .i64 0,.int .u32 0] 31);have CL:=fun (W:World) (h:IsL FL W (.slice fa fn fc) D.f)=>zdN fa fn fc D none 0 0 [] W k h hS hk (IsL.nil W none 0) (Nat.zero_le _);have HB:=Lg.bd_sweep hS []
 have HR:=show Lg.freshT D=if (Lg.sweep D []).2≠0 then (Lg.bare (Lg.sweep D []).1,(Lg.sweep D []).2) else zal (Lg.sweep D []).1 from rfl
 obtain ⟨⟨D1,E1⟩,h1⟩:∃R,Lg.sweep D []=R:=⟨_,rfl⟩;rw [h1] at CL HB HR;dsimp only at HB HR;have CR:=fun (a:Option Addr) (n c:Nat) (W:World) (h:IsL FL W (.slice a n c) D1.f)=>zcz a n c D1 W (k+k) h HB (by omega);obtain ⟨⟨T,E⟩,h2⟩:∃R,zal D1=R:=⟨_,rfl⟩;rw [h2] at CR HR;unfold zac at CL CR ⊢;replace CL:=zid CL;replace CR:=zid CR;replace HR:=zid HR;clear hv hS HB h1 h2
 go_enter Tryz.func48,Tryz.ntmps48
 go_upto_region 1 with (fail);obtain ⟨w0,hw0⟩:∃w0,(w.alloc (.cells #[.slice fa fn fc,.int .i64 D.c,.bool D.a,.int .i64 D.l,.bool D.x] 27)).alloc (.cells #[.slice none 0 0,.int .i64 0,.bool false,.int .i64 0,.bool false,.int .i64 0,.slice none 0 0,.int .i64 0,.int .i64 0,.int .i64 0,.int .u32 0] 31)=w0:=⟨_,rfl⟩;unfold dC at C0;rw [hw0] at C0 ⊢;have C0:=zid (show Cw w (.slice fa fn fc) w.heap.size (.slice fa fn fc) D (w.heap.size+1) zS [] w0 from C0.out);clear hw0;obtain ⟨d0,d1,d2,d3,d4⟩:=zaa C0.out.d;go_wp2_with fail;refine (CL.out _ C0.out.f).mono ?_;rintro e w1 ⟨a,n,c,rfl,ks⟩;obtain ⟨y0,y1,y2,y3,y4⟩:=zaa (hkeep C0.out.d ks.w);obtain ⟨yf0,yf1,yf2,yf3,yf4⟩:=zad (hkeep C0.out.d ks.w);have LY:=zid (C0.out.lay ks);clear ks d0 d1 d2 d3 d4 CL;unfold zac;go_upto_region 2 with (fail);obtain ⟨Z,hZ,CZ,_⟩:=LY.out;rw [hZ];have C1:=zid CZ;clear hZ CZ LY y0 y1 y2 y3 y4 yf0 yf1 yf2 yf3 yf4 C0;obtain ⟨d0,d1,d2,d3,d4⟩:=zaa C1.out.d
 by_cases hE:E1=0
 case neg=>
  have HF:=zid (HR.out.trans (if_pos hE))
  have he:(E1 != 0)=true:=by simpa using hE
  obtain ⟨⟨z0,z1,z2,z3,z4⟩,z5,z6,z7,z8,z9,z10⟩:=zab C1.out.r;have zf:=zaf C1.out.r;clear HR CR;go_wp2_with fail;obtain ⟨Y,hY,hr,hA⟩:=C1.out.bare;rw [hY];obtain ⟨⟨x0,x1,x2,x3,x4⟩,x5,x6,x7,x8,x9,x10⟩:=zab hr;refine bodyPost_ret (v:= .tuple #[zag (.slice a n c) (.slice none 0 0) (Lg.bare D1),.int .i64 E1]) (by unfold zag Lg.bare;simp [results,Tryz.results48,go_sem,x0,x1,x2,x3,x4,x5,x6,x7,x8,x9,x10];simp [Lg.bare]) rfl ?_;rw [HF.out];exact hA E1
 case pos=>
 subst hE;have HF:=zid (HR.out.trans (if_neg (fun h=>h rfl)));clear HR;go_wp2_with fail;refine (CR.out _ _ _ _ C1.out.f).mono ?_;rintro e w5 ⟨a5,n5,c5,a6,n6,c6,rfl,ks⟩;obtain ⟨⟨z0,z1,z2,z3,z4⟩,z5,z6,z7,z8,z9,z10⟩:=zab (hkeep C1.out.r ks.w);have zf:=zaf (hkeep C1.out.r ks.w);have LY:=zid (C1.out.put ks);clear ks d0 d1 d2 d3 d4 CR;unfold zag;go_wp2_with fail;obtain ⟨Y,hY,hr,hA⟩:=LY.out;rw [hY];obtain ⟨⟨x0,x1,x2,x3,x4⟩,x5,x6,x7,x8,x9,x10⟩:=zab hr;refine bodyPost_ret (v:= .tuple #[zag (.slice a5 n5 c5) (.slice a6 n6 c6) T,.int .i64 E]) (by unfold zag;simp [results,Tryz.results48,go_sem,x0,x1,x2,x3,x4,x5,x6,x7,x8,x9,x10]) rfl ?_;rw [HF.out];exact hA E
theorem zkx (s:ByteArray) (w:World) (hs:s.size<=3000000000):Calls Tryz.prog 31 #[.string s] w fun e w'=>e= .returned (.int .u32 (Cp.sum 0 s.data.toList:Nat))/\w=w':=by
 have C:=zid (zhC 0 s w (by decide) (by unfold maxLen;omega))
 go_enter Tryz.func31,Tryz.ntmps31
 go_wp2_with fail;refine C.out.mono ?_;rintro e w1 ⟨rfl,rfl⟩;go_wp2_with fail;go_ret;exact ⟨rfl,rfl⟩
theorem rcut_s {D:Dp.Dk} {k:Nat} {fv:Value} {w:World} (h:Bd D k) (hk:k<=200000) (n:ByteArray) (m:Nat) (hm:m<=9223372036854775807) (hv:IsL FL w fv D.f):Calls Tryz.prog 52 #[zac fv D,.string n,.int .i64 (m:Int)] w (zaL w fv (Dp.cut D n m)):=
 (rcut_any fv D n m w hv (zaM h (by omega)) (by omega) (by omega)).mono fun _ _ r=>rk_s r hv (zaM (Lg.bd_cut h n m hm) (by omega))
theorem Ms.grown {w W W':World} {b:Nat} {fv0 gv0:Value} {cs:List (Nat×Obj)} {fs:List (Value×List Dp.Fl)} {gs:List (Value×List Rt.Sg)} {r:Option Nat} (h:Ms w b fv0 gv0 cs fs gs W) (g:W.grownBy W' r)
 (hr:∀q,r=some q->b<=q/\(∀p∈cs,p.1≠q)/\(∀p∈fs,Sep p.1 q)/\∀p∈gs,Sep p.1 q):Ms w b fv0 gv0 cs fs gs W':=
 ⟨fun p hp=>⟨(h.c p hp).1,(g.block p.1 (h.lt (t:=p.1) (o:=p.2) hp) (fun e=>(hr p.1 e.symm).2.1 p hp rfl)).trans (h.c p hp).2⟩,
  fun p hp=>⟨IsL.grown12 (h.f p hp).1 g (fun t e=>(hr t e).2.2.1 p hp),(h.f p hp).2⟩,fun p hp=>⟨IsL.grown12 (h.g p hp).1 g (fun t e=>(hr t e).2.2.2 p hp),(h.g p hp).2⟩,Nat.le_trans h.le g.size,h.w.grown g h.le (fun q e=>(hr q e).1)⟩
structure Uw (w:World) (fv:Value) (D:Dp.Dk) (cs:List (Nat×Obj)) (gs:List (Value×List Rt.Sg)) (iv:Value) (il:List Int) (uv:Value) (U:List ByteArray) (W:World):Prop where
 m:Ms w w.heap.size fv (.slice none 0 0) cs [(fv,D.f)] gs W
 i:IsL Mfs.IL W iv il
 u:OwnL Dsk.SL W w.heap.size uv U
 a:∀q,uv.ownBlock=some q->(∀p∈cs,p.1≠q)/\Sep fv q/\(∀p∈gs,Sep p.1 q)/\Sep iv q
section
variable {w W W':World} {fv iv uv uv':Value} {D:Dp.Dk} {cs:List (Nat×Obj)} {gs:List (Value×List Rt.Sg)} {il:List Int} {U:List ByteArray}
theorem Uw.keep (h:Uw w fv D cs gs iv il uv U W) (k:Below W.heap.size W W'):Uw w fv D cs gs iv il uv U W':=⟨h.m.keep k,h.i.keep k,h.u.keep k,h.a⟩
theorem Uw.new (M:Ms w w.heap.size fv (.slice none 0 0) cs [(fv,D.f)] gs W) (hi:IsL Mfs.IL W iv il) (s:ByteArray):Uw w fv D cs gs iv il (.slice (some ⟨W.heap.size,0,none⟩) 1 1) [s] (W.alloc (.cells #[.string s] 9)):=by
 have k:=zbI W (.cells #[.string s] 9);refine ⟨M.keep k,hi.keep k,World.ownsRow_lit W #[.string s] 1 M.le (by unfold maxLen;omega) rfl,fun q e=>?_⟩
 injection e with e
 rw [<-e];exact ⟨fun p hp e=>by have:=M.lt (t:=p.1) (o:=p.2) hp;have e':p.1=W.heap.size:=e;omega,IsL.sep_new (M.fl mcs) (Nat.le_refl _),fun p hp=>IsL.sep_new (M.g p hp).1 (Nat.le_refl _),IsL.sep_new hi (Nat.le_refl _)⟩
theorem Uw.app (h:Uw w fv D cs gs iv il uv U W) (s:ByteArray) (ho:W'.ownsRow w.heap.size 9 1 uv' (U.length+1) (Dsk.SL.vals U++[.string s])) (g:(W.alloc (.cells #[.string s] 9)).grownBy W' uv.ownBlock) (hm:Moved (W.alloc (.cells #[.string s] 9)) uv uv'):Uw w fv D cs gs iv il uv' (U++[s]) W':=by
 have k:=zbI W (.cells #[.string s] 9);refine ⟨Ms.grown (h.m.keep k) g fun q e=>⟨(h.u.lt q e).1,(h.a q e).1,fun p hp=>by rw [List.mem_singleton] at hp;rw [hp];exact (h.a q e).2.1,(h.a q e).2.2.1⟩,IsL.grown12 (h.i.keep k) g (fun q e=>(h.a q e).2.2.2),OwnL.snoc (n:=U.length) ho rfl rfl,fun q e=>?_⟩
 rcases hm with hm | hm
 · rw [hm] at e
   exact h.a q e
 · have hq:=hm q e
   have hq2:W.heap.size<=q:=Nat.le_trans k.size hq
   exact ⟨fun p hp e=>by have:=h.m.lt (t:=p.1) (o:=p.2) hp;omega,IsL.sep_new (h.m.fl mcs) hq2,fun p hp=>IsL.sep_new (h.m.g p hp).1 hq2,IsL.sep_new h.i hq2⟩
theorem Uw.fresh (h:Uw w fv D cs gs iv il uv U W) {v:Value} {l:List Rt.Sg} (k:Below W.heap.size W W') (hl:IsL Rts.SL W' v l) (hs:∀j,j<W.heap.size->Sep v j):Uw w fv D cs ((v,l)::gs) iv il uv U W':=
 ⟨h.m.fresh k hl hs,h.i.keep k,h.u.keep k,fun q e=>⟨(h.a q e).1,(h.a q e).2.1,fun p hp=>by
  rcases List.mem_cons.1 hp with rfl | hp
  · exact hs q (h.u.lt q e).2
  · exact (h.a q e).2.2.1 p hp,(h.a q e).2.2.2⟩⟩
end
end Ro
end Go.Proofs.YtgmppfpllogdcaaGreat

/-
  Parts of what the laws of this seat stand on:DiskRef9,DiskCrash,DiskActs,DiskApp,DiskDo,DiskHeld,DiskAwake,DiskVar.
-/
import Derived.Test.YtooipogbmfkeeaaGreatQr1
import Derived.BigQuiet
import Derived.ChangeArms
import Derived.Deep.DeepCutAuto
import Derived.Deep.RegionHeld3
import Derived.Deep.RegionWith
import Derived.Deep.Slices
import Derived.Deep.Strs
import Derived.IntWalk
import Derived.Test.YtooipogbmfkeeaaGreatQr11
import Derived.Test.YtooipogbmfkeeaaGreatQr12
import Derived.Test.YtooipogbmfkeeaaGreatQr17
set_option maxRecDepth 100000
set_option maxHeartbeats 6400000
namespace Go.Proofs.YtooipogbmfkeeaaGreat
namespace Dsk
open Go.RowKit Dp
theorem zh7 (fv:Value) (D:Dk) (n t:ByteArray) (w:World) (hv:IsL FL w fv D.f) (hS:Sm D) (ht:t.size<=1000000000):
 Calls Tryz.prog 45 #[zac fv D,.string n,.string t] w (ziu w fv D.f (append D n t)):=by
 obtain ⟨fa,fn,fc,rfl⟩:∃a n c,fv= .slice a n c:=by obtain ⟨a,c,h,_⟩:=hv;exact ⟨a,_,c,h⟩
 have F:=fun (W:World) (h:IsL FL W (.slice fa fn fc) D.f)=>zbE (.slice fa fn fc) D n W h;have CH:=zid fun (ga:Option Addr) (gn gc:Nat) (l:List Fl) (own:Int) (W:World)=>zby fa ga fn fc gn gc D l own W hS.b hS.l0;have WO:=zid fun (g:Fl) (W:World) (h:IsL FL W (.slice fa fn fc) D.f)=>zcT (.slice fa fn fc) D.f g W h hS.r.2.1 hS.n;have HFB:=zid hS.flb;have HFN:=zid hv.len.1;have HV:=zid hv;obtain ⟨g0,g1,gb,gs⟩:=zaR w #[.slice fa fn fc,.int .i64 D.c,.bool D.a,.int .i64 D.l,.bool D.x] #[.slice none 0 0,.int .i64 0,.bool false,.int .i64 0,.bool false] 24 24;have G0:=zid g0;have G1:=zid g1;have GB:=zid gb;have GS:=zid gs;clear g0 g1 gb gs hv;have RU:=fun (W:World) (h:IsL FL W (.slice fa fn fc) D.f)=>zkD (.slice fa fn fc) D W h (by have:=hS.u;omega);have hU:=hS.u;obtain ⟨U,hUe⟩:∃U,used D.f=U:=⟨_,rfl⟩;rw [hUe] at RU hU;unfold zac at RU;replace RU:=zid RU;unfold append;rw [hUe];clear hUe
 rcases @zb8 D.f n with ⟨hf,hg⟩ | ⟨i,hi,hf,hg⟩
 · rw [hg]
   dsimp only
   simp only [hf] at F;unfold zac at F ⊢;replace F:=zid F;clear hf hg
   go_enter Tryz.func45,Tryz.ntmps45
   go_wp2_with fail;generalize World.alloc (World.alloc w _) _=w0 at G0 G1 GB GS ⊢;refine (F.out w0 (HV.out.keep GB.out)).mono ?_;rintro e w1 ⟨rfl,b1⟩;obtain ⟨p0,p1,p2,p3,p4⟩:=zaa (hkeep G0.out b1);have G1':=zid (hkeep G1.out b1);have B1:=zid (GB.out.trans (b1.mono (by have:=GS.out;omega)))
   have hs1:w.heap.size+1<w1.heap.size:=by have:=b1.size;have:=GS.out;omega
   clear b1;go_wp2_with fail;refine (CH.out none 0 0 [] 7 w1).mono ?_;rintro e w2 ⟨v,rfl,hc2,b2⟩
   obtain ⟨xa,xn,xc,rfl⟩:∃a n c,v= .slice a n c:=by
    rcases hc2 with ⟨h,_⟩ | ⟨h,_⟩
    · exact ⟨_,_,_,h⟩
    · exact ⟨_,_,_,h⟩
   obtain ⟨q0,q1,q2,q3,q4⟩:=zaa (hkeep G1'.out b2);obtain ⟨qf0,qf1,qf2,qf3,qf4⟩:=zae (hkeep G1'.out b2);have HC2:=zid hc2;have B2:=zid (B1.out.trans (b2.mono B1.out.size));clear hc2 b2;unfold zac;go_wp2_with fail;refine bodyPost_ret (v:= .tuple #[.agg #[.slice xa xn xc,.int .i64 (change D [] 7).1.c,.bool (change D [] 7).1.a,.int .i64 (change D [] 7).1.l,.bool (change D [] 7).1.x],.int .i64 (change D [] 7).2]) (by simp [results,Tryz.results45,go_sem,q0,q1,q2,q3,q4]) rfl ?_;refine ⟨xa,xn,xc,rfl,?_,zai B2.out (Nat.le_succ _) _ _ _ _ _⟩
   rcases HC2.out with ⟨h1,h2⟩ | ⟨h1,h2,_⟩
   · exact .inl ⟨h1,h2⟩
   · rw [h1,h2]
     exact .inr (OwnL.nil _ _)
 · obtain ⟨f,hfe⟩:∃f,D.f.getD i zero=f:=⟨_,rfl⟩
   rw [hg]
   dsimp only;simp only [hf] at F
   have hin:i<fn:=by rw [HFN.out];exact hi
   have hfb:FlB f:=by rw [<-hfe,zaF hi];exact HFB.out _ (List.getElem_mem hi)
   have hd:f.d.size<=1000000000:=by
    have h1:D.f[i]∈D.f:=List.getElem_mem hi;rw [<-zaF (z:=zero) hi,hfe] at h1;have:=zcx h1;have:=hS.u;omega
   have hil:fn<=1000000:=by have:=hS.n;have:=HFN.out;omega
   unfold zac at F ⊢;replace F:=zid F;rw [hfe];obtain ⟨R,hR⟩:∃R,(if 0<D.c/\D.c<(U:Int)+(t.size:Int) then change D [] 9 else change D (withF D.f ⟨f.n,f.d++t,f.s⟩) 0)=R:=⟨_,rfl⟩;rw [hR];have HRR:=zid hR;clear hR;clear hf hg hi hfb
   go_enter Tryz.func45,Tryz.ntmps45
   go_wp2_with fail;generalize World.alloc (World.alloc w _) _=w0 at G0 G1 GB GS ⊢;refine (F.out w0 (HV.out.keep GB.out)).mono ?_;rintro e w1 ⟨rfl,b1⟩;obtain ⟨p0,p1,p2,p3,p4⟩:=zaa (hkeep G0.out b1);have B1a:=GB.out.trans (b1.mono (by have:=GS.out;omega));obtain ⟨g,off,rfl,c0,c1,c2⟩:=zb0 (HV.out.keep B1a) hin;rw [hfe] at c0 c1 c2
   have hs1:w.heap.size+1<w1.heap.size:=by have:=b1.size;have:=GS.out;omega
   have hgl:=block_lt_of_cell c0
   have hol:w.heap.size<w1.heap.size:=by omega
   have B1A:=zid B1a;have G0b:=zid (hkeep G0.out b1);have G1b:=zid (hkeep G1.out b1);clear b1 B1a;go_wp2_with fail
   go_cut [31] (fun v w2=>v= .bool (decide (0<D.c/\D.c<(U:Int)+(t.size:Int)))/\Below w1.heap.size w1 w2)
   case first=>
    by_cases hc:0<D.c
    · have e:decide (0<D.c/\D.c<(U:Int)+(t.size:Int))=decide (D.c<(U:Int)+(t.size:Int)):=by simp [hc]
      replace e:=zid e
      have hww:=zid (IntWalk.i64_in ((U:Int)+(t.size:Int)) ⟨by omega,by omega⟩);have RU0:=zid (RU.out w1.drew (HV.out.keep B1A.out.drew))
      go_region_with ((with_reducible refine RU0.out.mono ?_);rintro e w4 ⟨rfl,b4⟩;obtain ⟨z0,z1,z2,z3,z4⟩:=zaa (hkeep (show w1.drew.heap[w.heap.size]?=_ from G0b.out) b4);have B4:=zid (show Below w1.heap.size w1 w4 from (Below.refl _ w1).drew.trans b4);clear b4)
      all_goals go_wp2_with fail
      all_goals go_meet
      all_goals
       case rel=>exact ⟨congrArg Value.bool (by rw [hww.out];exact e.out.symm),B4.out⟩
    · have e:decide (0<D.c/\D.c<(U:Int)+(t.size:Int))=false:=by simp [hc]
      replace e:=zid e
      have hd0:decide (0<D.c)=false:=by simpa using hc
      clear hc
      go_quiet (fail)
      go_wp2_with fail;go_meet
      case rel=>exact ⟨congrArg Value.bool e.out.symm,zad _⟩
   case rest=>
    obtain ⟨rfl,hbc⟩:=hcut;have G0c:=zid (hkeep G0b.out hbc);have G1c:=zid (hkeep G1b.out hbc);have B1C:=B1A.out.trans (hbc.mono B1A.out.size);have HBC:=zid B1C
    have hs1c:w.heap.size+1<wc.heap.size:=by have:=hbc.size;omega
    obtain ⟨p0,p1,p2,p3,p4⟩:=zaa G0c.out;replace c0:=(hbc.cell (p:=⟨g,_,none⟩) hgl).trans c0;replace c1:=(hbc.cell (p:=⟨g,_,none⟩) hgl).trans c1;replace c2:=(hbc.cell (p:=⟨g,_,none⟩) hgl).trans c2;have hgc:=block_lt_of_cell c0;clear hbc hs1 hgl hol B1C
    by_cases hfull:0<D.c/\D.c<(U:Int)+(t.size:Int)
    · have hRe:=HRR.out
      rw [if_pos hfull] at hRe
      subst hRe;rw [decide_eq_true hfull];clear hfull HRR c0 c1 c2;go_wp2_with fail;refine (CH.out none 0 0 [] 9 wc).mono ?_;rintro e w2 ⟨v,rfl,hc2,b2⟩
      obtain ⟨xa,xn,xc,rfl⟩:∃a n c,v= .slice a n c:=by
       rcases hc2 with ⟨h,_⟩ | ⟨h,_⟩
       · exact ⟨_,_,_,h⟩
       · exact ⟨_,_,_,h⟩
      obtain ⟨q0,q1,q2,q3,q4⟩:=zaa (hkeep G1c.out b2);obtain ⟨qf0,qf1,qf2,qf3,qf4⟩:=zae (hkeep G1c.out b2);have HC2:=zid hc2;have B2:=zid (HBC.out.trans (b2.mono HBC.out.size));clear hc2 b2;unfold zac;go_wp2_with fail;refine bodyPost_ret (v:= .tuple #[.agg #[.slice xa xn xc,.int .i64 (change D [] 9).1.c,.bool (change D [] 9).1.a,.int .i64 (change D [] 9).1.l,.bool (change D [] 9).1.x],.int .i64 (change D [] 9).2]) (by simp [results,Tryz.results45,go_sem,q0,q1,q2,q3,q4]) rfl ?_;refine ⟨xa,xn,xc,rfl,?_,zai B2.out (Nat.le_succ _) _ _ _ _ _⟩
      rcases HC2.out with ⟨h1,h2⟩ | ⟨h1,h2,_⟩
      · exact .inl ⟨h1,h2⟩
      · rw [h1,h2]
        exact .inr (OwnL.nil _ _)
    · have hRe:=HRR.out
      rw [if_neg hfull] at hRe
      subst hRe;rw [decide_eq_false hfull];clear hfull HRR;have G0w:=halloc (o:= .cells #[.string f.n,.string (f.d++t),.int .i64 f.s] 45) G0c.out;have G1w:=halloc (o:= .cells #[.string f.n,.string (f.d++t),.int .i64 f.s] 45) G1c.out;have GFw:=zid (heap_alloc_new wc (.cells #[.string f.n,.string (f.d++t),.int .i64 f.s] 45));have B1w:=HBC.out.alloc HBC.out.size (.cells #[.string f.n,.string (f.d++t),.int .i64 f.s] 45)
      have hsw:(wc.alloc (.cells #[.string f.n,.string (f.d++t),.int .i64 f.s] 45)).heap.size=wc.heap.size+1:=by simp
      have G0':=zid (hkeep G0w (Below.refl _ _).drew);have G1':=zid (hkeep G1w (Below.refl _ _).drew);have B1:=zid B1w.drew;have WO0:=zid (WO.out ⟨f.n,f.d++t,f.s⟩ (wc.alloc (.cells #[.string f.n,.string (f.d++t),.int .i64 f.s] 45)).drew (HV.out.keep B1.out));clear WO G0w G1w B1w hfe;go_wp2_with fail;generalize wc.alloc _=w3 at G0' G1' GFw B1 WO0 hsw ⊢;obtain ⟨r0,r1,r2⟩:=cells3 GFw.out;obtain ⟨y0,y1,y2,y3,y4⟩:=zaa (show w3.heap[w.heap.size]?=_ from G0'.out)
      have hs1:w.heap.size+1<w3.heap.size:=by omega
      clear p0 p1 p2 p3 p4 c0 c1 c2
      go_region_with (first | ((with_reducible refine WO0.out.mono ?_);rintro e w4 ⟨lv,rfl,ho4,b4⟩;obtain ⟨ga,gn,gc,rfl⟩:=own_slice ho4;have HO4:=zid ho4;obtain ⟨z0,z1,z2,z3,z4⟩:=zaa (hkeep G0'.out b4);have G14:=zid (hkeep G1'.out b4);have B4:=zid (B1.out.trans (b4.mono B1.out.size));have hs4:=b4.size;clear ho4 b4) | (go_at_call 67;refine (CH.out ga gn gc (withF D.f ⟨f.n,f.d++t,f.s⟩) 0 w4).mono ?_;rintro e w2 ⟨v,rfl,hc2,b2⟩;obtain ⟨xa,xn,xc,rfl⟩:∃a n c,v= .slice a n c:=(by rcases hc2 with ⟨h,_⟩ | ⟨h,_⟩<;>exact ⟨_,_,_,h⟩);obtain ⟨q0,q1,q2,q3,q4⟩:=zaa (hkeep G14.out b2);obtain ⟨qf0,qf1,qf2,qf3,qf4⟩:=zae (hkeep G14.out b2);have HC2:=zid hc2;have HO2:=zid (HO4.out.keep b2);have B2:=zid (B4.out.trans (b2.mono B4.out.size));clear hc2 b2;unfold zac))
      all_goals
       go_wp2_with fail
       refine bodyPost_ret (v:= .tuple #[.agg #[.slice xa xn xc,.int .i64 (change D (withF D.f ⟨f.n,f.d++t,f.s⟩) 0).1.c,.bool (change D (withF D.f ⟨f.n,f.d++t,f.s⟩) 0).1.a,.int .i64 (change D (withF D.f ⟨f.n,f.d++t,f.s⟩) 0).1.l,.bool (change D (withF D.f ⟨f.n,f.d++t,f.s⟩) 0).1.x],.int .i64 (change D (withF D.f ⟨f.n,f.d++t,f.s⟩) 0).2]) (by simp [results,Tryz.results45,go_sem,q0,q1,q2,q3,q4]) rfl ?_;refine ⟨xa,xn,xc,rfl,?_,zai B2.out (Nat.le_succ _) _ _ _ _ _⟩
       rcases HC2.out with ⟨h1,h2⟩ | ⟨h1,h2,_⟩
       · exact .inl ⟨h1,h2⟩
       · refine .inr ?_
         rw [h1,h2]
         exact zaW (zbB HO2.out (k:=w.heap.size+1) hs1 _ _ _ _ _) B1.out.size
def zfg (ks:List Int) (i:Nat):Int:=ks.getD i 0
theorem zdQ:∀(l:List Fl) (ks:List Int) (i:Nat) (h:i<l.length) (h':i<(zaw l ks).length),(zaw l ks)[i]=left l[i] (zfg ks i)
 | [],_,i,h,_=>absurd h (by simp)
 | f::l,[],0,_,_=>rfl
 | f::l,k::r,0,_,_=>rfl
 | f::l,[],i+1,h,h'=>by
  have e:=zdQ l [] i (by simpa using h) (by rw [zbz];simpa using h);simp only [zaw,List.getElem_cons_succ];rw [e]
  simp [zfg]
 | f::l,k::r,i+1,h,h'=>by
  have e:=zdQ l r i (by simpa using h) (by rw [zbz];simpa using h);simp only [zaw,List.getElem_cons_succ];rw [e]
  simp [zfg]
theorem left_val {f:Fl} (h:FOk f) (k:Int):∃m:Nat,f.s+zic f k=(m:Int)/\m<=f.d.size/\left f k=⟨f.n,f.d.extract 0 m,m⟩:=by
 have h1:=h.2.1;have h2:=h.2.2;refine ⟨(f.s+zic f k).toNat,by unfold zic;omega,by unfold zic;omega,?_⟩
 have e:(f.s+max 0 (min k ((f.d.size:Int)-f.s))).toNat<=f.d.size:=by omega
 unfold left zic;simp only [ByteArray.size_extract]
 congr 1
 omega
def KL:Lay Int where
 enc:=fun k=>[.int .i64 k]
 k:=1
 len:=fun _=>rfl
 one:=by intro f u hu;simp at hu;rw [hu];rfl
 pos:=by decide
 T:=3
 ok:=fun k=> -9223372036854775808<=k/\k<=9223372036854775807
 z:=0
theorem kl_at {w:World} {b off n cap:Nat} {l:List Int} (h:IsL KL w (.slice (some ⟨b,off,none⟩) n cap) l) {i:Nat} (hi:i<n):w.cell? ⟨b,off+i,none⟩=some (.int .i64 (l.getD i 0)):=by
 have:=h.at_ hi 0 _ rfl
 simpa [KL] using this
end Dsk
namespace Dsk
open Go.RowKit Go.ChangeShapes Go.WideShapes Go.Deep Go.Joins Dp
theorem i64_wf {n:Int} (h:(Lit.int .i64 n).wf=true): -9223372036854775808<=n/\n<=9223372036854775807:=by
 simpa [Lit.wf,IntKind.min,IntKind.max,IntKind.signed,IntKind.bits] using h
section
variable {H:Type} {P:Program} {enc:TypeId×Value->H} {w:World} {base:Nat} {spare:Nat->Bool} {held:Bool}
end
section
variable {H:Type} {enc:TypeId×Value->H} {w:World} {base:Nat} {spare:Nat->Bool} {held:Bool}
theorem zjT {n:Nat} {cs:List Value} {y:DataW H×List MemPlace} (h:DataW.trod enc Tryz.prog w base spare held n 36 cs=some y):∃a l c ks,cs=[.slice a l c]/\IsL KL w (.slice a l c) ks:=by
 rcases open_ints Tryz.underlying36 Tryz.underlying3 (by kernel_rfl) h with ⟨hcs,_⟩ | ⟨x,l,c,zs,hcs,_,hl,hm,hz,_,hcell,hwz⟩
 · exact ⟨none,0,0,[],by simpa using hcs,IsL.nil w none 0⟩
 · have hll:l<=zs.length:=by rw [hz];split<;>omega
   refine ⟨some x,l,c,zs.take l,by simpa using hcs,some x,c,by rw [List.length_take,Nat.min_eq_left (by omega)],by rw [List.length_take];omega,?_,?_⟩
   · intro k hk
     exact i64_wf (hwz k (List.mem_of_mem_take hk))
   · by_cases h0:l=0
     · exact .inl (by rw [h0];rfl)
     · obtain ⟨b,off,spot⟩:=x
       have h1:=hcell 0 (by omega)
       have hspot:spot=none:=by simpa [Addr.add] using World.cell?_spot h1
       subst hspot;refine .inr ⟨b,off,rfl,fun j u hj=>?_⟩
       have hv:KL.vals (zs.take l)=(zs.take l).map fun k=>Value.int .i64 k:=by
        generalize zs.take l=q
        induction q with
        | nil=>rfl
        | cons k q ih=>rw [Lay.vals_cons,ih];rfl
       rw [hv,List.getElem?_map,List.getElem?_take] at hj
       split at hj
       · rename_i hjl
         have hjz:j<zs.length:=by omega
         have:=hcell j hjz;rw [zak,List.getD_eq_getElem?_getD,List.getElem?_eq_getElem hjz] at this;rw [List.getElem?_eq_getElem hjz] at hj;simp only [Option.map_some,Option.some.injEq] at hj;rw [this, <-hj]
         rfl
       · simp at hj
end
end Dsk
namespace Dsk
open Go.RowKit Dp
theorem zke (D:Dk) (n s:ByteArray):append D n s=one D n (fun f=>if 0<D.c/\D.c<(used D.f:Int)+(s.size:Int) then f else ⟨f.n,f.d++s,f.s⟩) (fun _=>if 0<D.c/\D.c<(used D.f:Int)+(s.size:Int) then 9 else 0):=by
 unfold append one
 cases get D.f n with
 | none=>rfl
 | some f=>
  by_cases h:0<D.c/\D.c<(used D.f:Int)+(s.size:Int)
  · simp only [if_pos h]
    exact zcu D _ _ (by decide)
  · simp only [if_neg h]
theorem sync_one (D:Dk) (n:ByteArray):sync D n=one D n (fun f=>⟨f.n,f.d,f.d.size⟩) (fun _=>0):=rfl
theorem cut_one (D:Dk) (n:ByteArray) (k:Int):cut D n k=one D n (fun f=>if k<0\/(f.d.size:Int)<k then f else ⟨f.n,f.d.extract 0 k.toNat,min f.s k⟩) (fun f=>if k<0\/(f.d.size:Int)<k then 6 else 0):=by
 unfold cut one
 cases get D.f n with
 | none=>rfl
 | some f=>
  by_cases h:k<0\/(f.d.size:Int)<k
  · simp only [if_pos h]
    exact zcu D _ _ (by decide)
  · simp only [if_neg h]
theorem zen {w w':World} {fv v:Value} {l0:List Fl} {R:Dk} {fa:Option Addr} {fn fc:Nat} (h:DkRes w fv l0 R v w') (e:fv= .slice fa fn fc):∃a n c,v= .slice a n c:=by
 rcases h.k with ⟨k,_⟩ | k
 · exact ⟨_,_,_,k.trans e⟩
 · exact own_slice k
theorem zkf (fv:Value) (D:Dk) (n s:ByteArray) (w:World) (hv:IsL FL w fv D.f) (hS:Sm D) (hs:s.size<=1000000000):
 Calls Tryz.prog 161 #[zac fv D,.string n,.string s] w (zgi w fv D.f (append D n s)):=by
 rw [zke]
 have HC:=zid fun (fv:Value) (b1 b2 bd bs:Nat) (W:World) (h:IsL FL W fv D.f) (x1:W.cell? ⟨b1,0,none⟩=some (.string n)) (x2:W.cell? ⟨b2,0,none⟩=some (.func (.func 168) #[] #[.pointer (some ⟨bd,0,none⟩),.pointer (some ⟨bs,0,none⟩)]))
  (xd:W.heap[bd]?=some (.cells #[fv,.int .i64 D.c,.bool D.a,.int .i64 D.l,.bool D.x] 24 (0,0))) (xs:W.cell? ⟨bs,0,none⟩=some (.string s))=>
  zdn fv D n (fun f=>if 0<D.c/\D.c<(used D.f:Int)+(s.size:Int) then f else ⟨f.n,f.d++s,f.s⟩) (fun _=>if 0<D.c/\D.c<(used D.f:Int)+(s.size:Int) then 9 else 0) 168 #[.pointer (some ⟨bd,0,none⟩),.pointer (some ⟨bs,0,none⟩)] b1 b2 W h hS
   (fun f hf=>by
    have hm:=get_mem hf;have hb:=hS.flb f hm.1;have hu:=zcx hm.1;have:=hS.u;refine ⟨?_,fun h0=>?_⟩
    · split<;>exact hm.2
    · split at h0
      · omega
      · rename_i hx
        rw [if_neg hx]
        exact ⟨hb.1,by show (f.d++s).size<=_;rw [ByteArray.size_append];omega,hb.2.2⟩)
   (enters Tryz.func168 (by kernel_rfl) (by rfl))
   (fun f W' hf b=>by
    have hm:=get_mem hf;have hu:=zcx hm.1;have hu2:=hS.u;have hp':=hkeep xd b
    have hs':W'.cell? ⟨bs,0,none⟩=some (.string s):=by rw [b.cell (p:=⟨bs,0,none⟩) (block_lt_of_cell xs)];exact xs
    have hv':=h.keep b;have hc0:=hS.r.2.2.1;have hc9:=hS.b.1.2
    by_cases hc:D.c=0
    · rw [if_neg (by omega),if_neg (by omega)]
      exact zhr f s fv D bd bs W' hp' hs' (by omega) hc
    · by_cases hx:D.c<(used D.f:Int)+(s.size:Int)
      · rw [if_pos ⟨by omega,hx⟩,if_pos ⟨by omega,hx⟩]
        exact zhq f s fv D bd bs W' hp' hs' hv' (by omega) (by omega) (by omega) hc9 hx
      · rw [if_neg (fun h=>hx h.2),if_neg (fun h=>hx h.2)]
        exact zhp f s fv D bd bs W' hp' hs' hv' (by omega) (by omega) (by omega) hc9 (by omega))
   x1 x2
 have WI:=zid fun (W:World) (bd bs:Nat)=>within_any n (.func 168) #[.pointer (some ⟨bd,0,none⟩),.pointer (some ⟨bs,0,none⟩)] W;have HV:=zid hv
 obtain ⟨fa,fn,fc,rfl⟩:∃a n c,fv= .slice a n c:=by obtain ⟨a,c,h,_⟩:=hv;exact ⟨a,_,c,h⟩
 have hmf:=made_func;obtain ⟨g0,g1,g2,gb,gs⟩:=zeR w #[.slice fa fn fc,.int .i64 D.c,.bool D.a,.int .i64 D.l,.bool D.x] #[.string s] #[.slice none 0 0,.int .i64 0,.bool false,.int .i64 0,.bool false] 24 9 24;have G0:=zid g0;have G1:=zid g1;have G2:=zid g2;have GB:=zid gb;have GS:=zid gs;generalize one D n _ _=R at*;clear hv hS g0 g1 g2 gb gs hs;unfold zac
 go_enter Tryz.func161,Tryz.ntmps161
 go_wp2_with fail;generalize World.alloc (World.alloc (World.alloc w _) _) _=w0 at G0 G1 G2 GB GS ⊢;have HL:=zid (show w.heap.size+1+1<w0.heap.size by have:=GS.out;omega);obtain ⟨p0,p1,p2,p3,p4⟩:=zaa G0.out;have HLL:=HL.out
 have hl0:w.heap.size<w0.heap.size:=by omega
 go_region_with (first | (go_at_call 99;refine (WI.out _ _ _).mono ?_;rintro e w4 ⟨p,q,rfl,hp4,hq4,b4⟩;obtain ⟨z0,z1,z2,z3,z4⟩:=zaa (hkeep G0.out (zaf (Below.refl _ _).drew b4))) | (go_at_call 98;refine (HC.out _ _ _ _ _ _ (HV.out.keep (GB.out.trans ((zaf (Below.refl _ _).drew b4).mono (by omega)))) hp4 hq4 (hkeep G0.out (zaf (Below.refl _ _).drew b4)) (za4 (hkeep G1.out (zaf (Below.refl _ _).drew b4))).1).mono ?_;rintro e w5 ⟨v1,rfl,hres⟩;obtain ⟨ga,gn,gc,rfl⟩:=zen hres rfl;have HRS:=zid (zdd hres (GB.out.trans ((zaf (Below.refl _ _).drew b4).mono (by omega))) (k:=w.heap.size+1+1) (by omega) (Nat.lt_of_lt_of_le HL.out (zaf (Below.refl _ _).drew b4).size));obtain ⟨q0,q1,q2,q3,q4⟩:=zaa (hkeep G2.out (zaf (zaf (Below.refl _ _).drew b4) hres.w));obtain ⟨qf0,qf1,qf2,qf3,qf4⟩:=zae (hkeep G2.out (zaf (zaf (Below.refl _ _).drew b4) hres.w));clear hres b4;unfold zac))
 all_goals
  go_wp2_with fail
  refine bodyPost_ret (v:= .tuple #[.agg #[.slice ga gn gc,.int .i64 R.1.c,.bool R.1.a,.int .i64 R.1.l,.bool R.1.x],.int .i64 R.2]) (by simp [results,Tryz.results161,go_sem,q0,q1,q2,q3,q4]) rfl ?_;exact ⟨_,rfl,HRS.out _ _ _ _ _⟩
theorem cut_any (fv:Value) (D:Dk) (n:ByteArray) (k:Int) (w:World) (hv:IsL FL w fv D.f) (hS:Sm D) (hk:k<=9223372036854775807):
 Calls Tryz.prog 97 #[zac fv D,.string n,.int .i64 k] w (zgi w fv D.f (cut D n k)):=by
 rw [cut_one]
 have HC:=zid fun (fv:Value) (b1 b2 bs:Nat) (W:World) (h:IsL FL W fv D.f) (x1:W.cell? ⟨b1,0,none⟩=some (.string n)) (x2:W.cell? ⟨b2,0,none⟩=some (.func (.func 133) #[] #[.pointer (some ⟨bs,0,none⟩)]))
  (xs:W.cell? ⟨bs,0,none⟩=some (.int .i64 k))=>
  zdn fv D n (fun f=>if k<0\/(f.d.size:Int)<k then f else ⟨f.n,f.d.extract 0 k.toNat,min f.s k⟩) (fun f=>if k<0\/(f.d.size:Int)<k then 6 else 0) 133 #[.pointer (some ⟨bs,0,none⟩)] b1 b2 W h hS
   (fun f hf=>by
    have hm:=get_mem hf;have hb:=hS.flb f hm.1;have ho:=hS.r.1 f hm.1;have h1:=ho.2.1;have h2:=hb.2.2.2;refine ⟨?_,fun h0=>?_⟩
    · split<;>exact hm.2
    · split at h0
      · omega
      · rename_i hx
        rw [if_neg hx]
        exact ⟨hb.1,by show (f.d.extract 0 k.toNat).size<=_;rw [ByteArray.size_extract];have:=hb.2.1;omega,by show _<=min f.s k;omega,by show min f.s k<=_;omega⟩)
   (enters Tryz.func133 (by kernel_rfl) (by rfl))
   (fun f W' hf b=>by
    have hm:=get_mem hf;have hb:=hS.flb f hm.1
    have hs':W'.cell? ⟨bs,0,none⟩=some (.int .i64 k):=by rw [b.cell (p:=⟨bs,0,none⟩) (block_lt_of_cell xs)];exact xs
    by_cases hx:k<0\/(f.d.size:Int)<k
    · rw [if_pos hx,if_pos hx]
      exact cut1_no f k bs W' hb.2.1 hs' hx
    · rw [if_neg hx,if_neg hx]
      obtain ⟨j,rfl⟩:∃j:Nat,k=(j:Int):=⟨k.toNat,by omega⟩
      exact cut1_yes f j bs W' hs' (by omega))
   x1 x2
 have WI:=zid fun (W:World) (bs:Nat)=>within_any n (.func 133) #[.pointer (some ⟨bs,0,none⟩)] W;have HV:=zid hv
 obtain ⟨fa,fn,fc,rfl⟩:∃a n c,fv= .slice a n c:=by obtain ⟨a,c,h,_⟩:=hv;exact ⟨a,_,c,h⟩
 have hmf:=made_func;obtain ⟨g0,g1,g2,gb,gs⟩:=zeR w #[.slice fa fn fc,.int .i64 D.c,.bool D.a,.int .i64 D.l,.bool D.x] #[.int .i64 k] #[.slice none 0 0,.int .i64 0,.bool false,.int .i64 0,.bool false] 24 3 24;have G0:=zid g0;have G1:=zid g1;have G2:=zid g2;have GB:=zid gb;have GS:=zid gs;generalize one D n _ _=R at*;clear hv hS g0 g1 g2 gb gs hk;unfold zac
 go_enter Tryz.func97,Tryz.ntmps97
 go_wp2_with fail;generalize World.alloc (World.alloc (World.alloc w _) _) _=w0 at G0 G1 G2 GB GS ⊢;have HL:=zid (show w.heap.size+1+1<w0.heap.size by have:=GS.out;omega);obtain ⟨p0,p1,p2,p3,p4⟩:=zaa G0.out;have HLL:=HL.out
 have hl0:w.heap.size<w0.heap.size:=by omega
 go_region_with (first | (go_at_call 99;refine (WI.out _ _).mono ?_;rintro e w4 ⟨p,q,rfl,hp4,hq4,b4⟩;obtain ⟨z0,z1,z2,z3,z4⟩:=zaa (hkeep G0.out (zaf (Below.refl _ _).drew b4))) | (go_at_call 98;refine (HC.out _ _ _ _ _ (HV.out.keep (GB.out.trans ((zaf (Below.refl _ _).drew b4).mono (by omega)))) hp4 hq4 (za4 (hkeep G1.out (zaf (Below.refl _ _).drew b4))).1).mono ?_;rintro e w5 ⟨v1,rfl,hres⟩;obtain ⟨ga,gn,gc,rfl⟩:=zen hres rfl;have HRS:=zid (zdd hres (GB.out.trans ((zaf (Below.refl _ _).drew b4).mono (by omega))) (k:=w.heap.size+1+1) (by omega) (Nat.lt_of_lt_of_le HL.out (zaf (Below.refl _ _).drew b4).size));obtain ⟨q0,q1,q2,q3,q4⟩:=zaa (hkeep G2.out (zaf (zaf (Below.refl _ _).drew b4) hres.w));obtain ⟨qf0,qf1,qf2,qf3,qf4⟩:=zae (hkeep G2.out (zaf (zaf (Below.refl _ _).drew b4) hres.w));clear hres b4;unfold zac))
 all_goals
  go_wp2_with fail
  refine bodyPost_ret (v:= .tuple #[.agg #[.slice ga gn gc,.int .i64 R.1.c,.bool R.1.a,.int .i64 R.1.l,.bool R.1.x],.int .i64 R.2]) (by simp [results,Tryz.results97,go_sem,q0,q1,q2,q3,q4]) rfl ?_;exact ⟨_,rfl,HRS.out _ _ _ _ _⟩
theorem sync_any (fv:Value) (D:Dk) (n:ByteArray) (w:World) (hv:IsL FL w fv D.f) (hS:Sm D):
 Calls Tryz.prog 56 #[zac fv D,.string n] w (zgi w fv D.f (sync D n)):=by
 rw [sync_one]
 have HC:=zid fun (fv:Value) (b1 b2:Nat) (W:World) (h:IsL FL W fv D.f) (x1:W.cell? ⟨b1,0,none⟩=some (.string n)) (x2:W.cell? ⟨b2,0,none⟩=some (.func (.func 100) #[] #[]))=>
  zdn fv D n (fun f=>⟨f.n,f.d,f.d.size⟩) (fun _=>0) 100 #[] b1 b2 W h hS
   (fun f hf=>by
    have hb:=hS.flb f (get_mem hf).1
    exact ⟨(get_mem hf).2,fun _=>⟨hb.1,hb.2.1,by show _<=(f.d.size:Int);omega,by show (f.d.size:Int)<=_;have:=hb.2.1;omega⟩⟩)
   (enters Tryz.func100 (by kernel_rfl) (by rfl))
   (fun f W' hf b=>zit f W') x1 x2
 have WI:=zid fun (W:World)=>within_any n (.func 100) #[] W;have HV:=zid hv
 obtain ⟨fa,fn,fc,rfl⟩:∃a n c,fv= .slice a n c:=by obtain ⟨a,c,h,_⟩:=hv;exact ⟨a,_,c,h⟩
 have hmf:=made_func;obtain ⟨g0,g1,gb,gs⟩:=zaR w #[.slice fa fn fc,.int .i64 D.c,.bool D.a,.int .i64 D.l,.bool D.x] #[.slice none 0 0,.int .i64 0,.bool false,.int .i64 0,.bool false] 24 24;have G0:=zid g0;have G1:=zid g1;have GB:=zid gb;have GS:=zid gs;generalize one D n _ _=R at*;clear hv hS g0 g1 gb gs;unfold zac
 go_enter Tryz.func56,Tryz.ntmps56
 go_wp2_with fail;generalize World.alloc (World.alloc w _) _=w0 at G0 G1 GB GS ⊢;have HL:=zid (show w.heap.size+1<w0.heap.size by have:=GS.out;omega);obtain ⟨p0,p1,p2,p3,p4⟩:=zaa G0.out;have HLL:=HL.out
 have hl0:w.heap.size<w0.heap.size:=by omega
 go_region_with (first | (go_at_call 99;refine (WI.out _).mono ?_;rintro e w4 ⟨p,q,rfl,hp4,hq4,b4⟩;obtain ⟨z0,z1,z2,z3,z4⟩:=zaa (hkeep G0.out (zaf (Below.refl _ _).drew b4))) | (go_at_call 98;refine (HC.out _ _ _ _ (HV.out.keep (GB.out.trans ((zaf (Below.refl _ _).drew b4).mono (by omega)))) hp4 hq4).mono ?_;rintro e w5 ⟨v1,rfl,hres⟩;obtain ⟨ga,gn,gc,rfl⟩:=zen hres rfl;have HRS:=zid (zdd hres (GB.out.trans ((zaf (Below.refl _ _).drew b4).mono (by omega))) (k:=w.heap.size+1) (by omega) (Nat.lt_of_lt_of_le HL.out (zaf (Below.refl _ _).drew b4).size));obtain ⟨q0,q1,q2,q3,q4⟩:=zaa (hkeep G1.out (zaf (zaf (Below.refl _ _).drew b4) hres.w));obtain ⟨qf0,qf1,qf2,qf3,qf4⟩:=zae (hkeep G1.out (zaf (zaf (Below.refl _ _).drew b4) hres.w));clear hres b4;unfold zac))
 all_goals
  go_wp2_with fail
  refine bodyPost_ret (v:= .tuple #[.agg #[.slice ga gn gc,.int .i64 R.1.c,.bool R.1.a,.int .i64 R.1.l,.bool R.1.x],.int .i64 R.2]) (by simp [results,Tryz.results56,go_sem,q0,q1,q2,q3,q4]) rfl ?_;exact ⟨_,rfl,HRS.out _ _ _ _ _⟩
structure Bd (D:Dk) (k:Nat):Prop where
 b:DkB D
 r:Right D
 n:D.f.length<=k
 u:used D.f<=k*3000
end Dsk
namespace Dp
theorem za9 {D:Dk} {l:List Fl} {own:Int} {a b:Nat} (hn:D.f.length<=a) (hu:used D.f<=b) (hl:own=0->l.length<=a/\used l<=b):(change D l own).1.f.length<=a/\used (change D l own).1.f<=b:=by
 rcases zaQ D l own with ⟨e,_⟩ | ⟨e,_⟩ | ⟨e,_⟩ | ⟨e,h0,_⟩ | ⟨e,h0,_⟩
 all_goals rw [e]
 · exact ⟨hn,hu⟩
 · exact ⟨hn,hu⟩
 · exact ⟨hn,hu⟩
 · exact hl h0
 · exact hl h0
theorem zbu (l:List Fl) (f:Fl):(withF l f).length<=(without l f.n).length+1:=by
 unfold withF;rw [List.length_append,List.length_append]
 have h:(l.filter fun g=>decide (Lt g.n f.n)).length+(l.filter fun g=>decide (Lt f.n g.n)).length<=(without l f.n).length:=by
  unfold without
  induction l with
  | nil=>exact Nat.le_refl _
  | cons g l ih=>
   rcases zg0 g.n f.n with h | h | h
   · rw [List.filter_cons_of_pos (by simpa using h),List.filter_cons_of_neg (by simpa using h.asymm),List.filter_cons_of_pos (by simpa using h.ne),List.length_cons,List.length_cons];omega
   · rw [List.filter_cons_of_neg (by rw [h];simpa using Lt.irrefl f.n),List.filter_cons_of_neg (by rw [h];simpa using Lt.irrefl f.n),List.filter_cons_of_neg (by simpa using h)];exact ih
   · rw [List.filter_cons_of_neg (by simpa using h.asymm),List.filter_cons_of_pos (by simpa using h),List.filter_cons_of_pos (by simpa using fun e:g.n=f.n=>h.ne e.symm),List.length_cons,List.length_cons];omega
 simp only [List.length_singleton];omega
theorem zbZ (l:List Fl) (n:ByteArray):(without l n).length<=l.length:=List.length_filter_le _ _
theorem act_small (D:Dk) (a:Act):(act D a).1.f.length<=D.f.length+1/\used (act D a).1.f<=used D.f+a.t.size:=by
 have no:∀e:Int,e≠0->(change D [] e).1.f.length<=D.f.length+1/\used (change D [] e).1.f<=used D.f+a.t.size:=fun e he=>za9 (by omega) (by omega) (fun h=>absurd h he);unfold act
 split
 · unfold create
   split
   · exact no 1 (by decide)
   · split
     · exact no 8 (by decide)
     · refine za9 (by omega) (by omega) fun _=>⟨?_,?_⟩
       · have:=zbu D.f ⟨a.n,⟨#[]⟩,0⟩;have:=zbZ D.f a.n;dsimp only at*;omega
       · rw [zci]
         have:=zbr D.f a.n
         show 0+used (without D.f a.n)<=_;omega
 split
 · unfold append
   split
   · exact no 7 (by decide)
   · rename_i f hf
     split
     · exact no 9 (by decide)
     · refine za9 (by omega) (by omega) fun _=>⟨?_,?_⟩
       · have:=zbu D.f ⟨f.n,f.d++a.t,f.s⟩;have:=zbZ D.f f.n;dsimp only at*;omega
       · rw [zci]
         have h1:=zb5 hf
         rw [<-(get_mem hf).2] at h1;show (f.d++a.t).size+used (without D.f f.n)<=_;rw [ByteArray.size_append];omega
 split
 · unfold sync
   split
   · exact no 7 (by decide)
   · rename_i f hf
     refine za9 (by omega) (by omega) fun _=>⟨?_,?_⟩
     · have:=zbu D.f ⟨f.n,f.d,f.d.size⟩;have:=zbZ D.f f.n;dsimp only at*;omega
     · rw [zci]
       have h1:=zb5 hf
       rw [<-(get_mem hf).2] at h1;show f.d.size+used (without D.f f.n)<=_;omega
 split
 · unfold cut
   split
   · exact no 7 (by decide)
   · rename_i f hf
     split
     · exact no 6 (by decide)
     · refine za9 (by omega) (by omega) fun _=>⟨?_,?_⟩
       · have:=zbu D.f ⟨f.n,f.d.extract 0 a.i.toNat,min f.s a.i⟩;have:=zbZ D.f f.n;dsimp only at*;omega
       · rw [zci]
         have h1:=zb5 hf
         rw [<-(get_mem hf).2] at h1;show (f.d.extract 0 a.i.toNat).size+used (without D.f f.n)<=_;rw [ByteArray.size_extract];omega
 split
 · unfold rename
   split
   · exact no 7 (by decide)
   · rename_i f hf
     split
     · exact no 1 (by decide)
     · refine za9 (by omega) (by omega) fun _=>⟨?_,?_⟩
       · have:=zbu (without D.f a.n) ⟨a.t,f.d,f.s⟩;have:=zbZ (without D.f a.n) a.t;have:=zbZ D.f a.n;dsimp only at*;omega
       · rw [zci]
         have h1:=zb5 hf
         have h2:=zbr (without D.f a.n) a.t;show f.d.size+used (without (without D.f a.n) a.t)<=_;omega
 split
 · unfold delete
   split
   · exact no 7 (by decide)
   · refine za9 (by omega) (by omega) fun _=>⟨?_,?_⟩
     · have:=zbZ D.f a.n;omega
     · have:=zbr D.f a.n;omega
 split
 · exact ⟨Nat.le_succ _,Nat.le_add_right _ _⟩
 split
 · exact ⟨Nat.le_succ _,Nat.le_add_right _ _⟩
 · exact ⟨by show (zaw D.f a.e).length<=_;rw [zbz];omega,by have:=zdu D.f a.e;show used (zaw D.f a.e)<=_;omega⟩
end Dp
namespace Dsk
open Go.RowKit Dp
theorem za1 {D:Dk} {l:List Fl} {own:Int} (h:DkB D) (h0:0<=D.l):DkB (change D l own).1:=by
 obtain ⟨⟨h1,h2⟩,h3,h4⟩:=h
 rcases zaQ D l own with ⟨e,_⟩ | ⟨e,_⟩ | ⟨e,_⟩ | ⟨e,_,_,_,hd⟩ | ⟨e,_⟩
 all_goals rw [e]
 · exact ⟨⟨h1,h2⟩,h3,h4⟩
 · exact ⟨⟨h1,h2⟩,h3,h4⟩
 · exact ⟨⟨h1,h2⟩,h3,h4⟩
 · exact ⟨⟨h1,h2⟩,by show _<=D.l-1;omega,by show D.l-1<=_;omega⟩
 · exact ⟨⟨h1,h2⟩,h3,h4⟩
theorem act_dkb {D:Dk} {a:Dp.Act} (h:DkB D) (h0:0<=D.l) (hi:a.i<=9223372036854775807):DkB (act D a).1:=by
 unfold act
 split
 · unfold create
   split
   · exact za1 h h0
   · split<;>exact za1 h h0
 split
 · unfold append
   split
   · exact za1 h h0
   · split<;>exact za1 h h0
 split
 · unfold sync
   split<;>exact za1 h h0
 split
 · unfold cut
   split
   · exact za1 h h0
   · split<;>exact za1 h h0
 split
 · unfold rename
   split
   · exact za1 h h0
   · split<;>exact za1 h h0
 split
 · unfold delete
   split<;>exact za1 h h0
 obtain ⟨⟨h1,h2⟩,h3,h4⟩:=h
 split
 · exact ⟨⟨h1,h2⟩,by show _<=max a.i 0;omega,by show max a.i 0<=_;omega⟩
 split
 · exact ⟨⟨by show _<=max a.i 0;omega,by show max a.i 0<=_;omega⟩,h3,h4⟩
 · exact ⟨⟨h1,h2⟩,by show (-9223372036854775808:Int)<=0;omega,by show (0:Int)<=_;omega⟩
theorem za8 {W:World} {k:Nat} {T:TypeId} {a b c d e:Value} (h:W.heap[k]?=some (.cells #[a,b,c,d,e] T (0,0))) (x y z u t:Value):(set5 W k x y z u t).heap[k]?=some (.cells #[x,y,z,u,t] T (0,0)):=
 heap_setCell_same _ _ 4 _ _ t (heap_setCell_same _ _ 3 _ _ u (heap_setCell_same _ _ 2 _ _ z (heap_setCell_same _ _ 1 _ _ y (heap_setCell_same _ _ 0 _ _ x h))))
theorem Bd.mono {D:Dk} {k j:Nat} (h:Bd D k) (hj:k<=j):Bd D j:=⟨h.b,h.r,Nat.le_trans h.n hj,Nat.le_trans h.u (Nat.mul_le_mul_right _ hj)⟩
end Dsk
end Go.Proofs.YtooipogbmfkeeaaGreat

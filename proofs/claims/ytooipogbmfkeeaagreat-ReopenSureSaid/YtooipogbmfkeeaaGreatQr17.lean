/-
  Parts of what the laws of this seat stand on:ManPut,DiskRef5,DiskRef7,DiskRef8.
-/
import Derived.Test.YtooipogbmfkeeaaGreatQr1
import Derived.Deep.RegionHeld3
import Derived.Test.YtooipogbmfkeeaaGreatQr13
import Derived.Test.YtooipogbmfkeeaaGreatQr14
import Derived.Test.YtooipogbmfkeeaaGreatQr16
set_option maxRecDepth 100000
set_option maxHeartbeats 6400000
namespace Go.Proofs.YtooipogbmfkeeaaGreat
namespace Mfs
open Go.RowKit Qm
theorem zcV {n:Int} (h:0<=n):putI n=Vp.put n.toNat:=by unfold putI;rw [if_neg (by omega)]
theorem zeZ {w w1 w2:World} {a:Nat} {x y z u:Value} (h:w1.cell? ⟨a,0,none⟩=some x/\w1.cell? ⟨a,1,none⟩=some y/\w1.cell? ⟨a,2,none⟩=some z/\w1.cell? ⟨a,3,none⟩=some u/\Below w.heap.size w w1) (b:Below w1.heap.size w1 w2):
 w2.cell? ⟨a,0,none⟩=some x/\w2.cell? ⟨a,1,none⟩=some y/\w2.cell? ⟨a,2,none⟩=some z/\w2.cell? ⟨a,3,none⟩=some u/\Below w.heap.size w w2:=
 ⟨(b.cell (p:=⟨a,0,none⟩) (block_lt_of_cell h.1)).trans h.1,(b.cell (p:=⟨a,1,none⟩) (block_lt_of_cell h.2.1)).trans h.2.1,(b.cell (p:=⟨a,2,none⟩) (block_lt_of_cell h.2.2.1)).trans h.2.2.1,(b.cell (p:=⟨a,3,none⟩) (block_lt_of_cell h.2.2.2.1)).trans h.2.2.2.1,h.2.2.2.2.trans (b.mono h.2.2.2.2.size)⟩
theorem keep4r {w w1:World} {a:Nat} {x y z u:Value} (h:w1.cell? ⟨a,0,none⟩=some x/\w1.cell? ⟨a,1,none⟩=some y/\w1.cell? ⟨a,2,none⟩=some z/\w1.cell? ⟨a,3,none⟩=some u/\Below w.heap.size w w1):Below w.heap.size w w1:=h.2.2.2.2
noncomputable def putVal10 (m:Mn):Value:= .tuple #[.string ⟨(putM m).1.toArray⟩,.int .i64 (putM m).2]
theorem zkM (fa:Option Addr) (fn fc:Nat) (m:Mn) (w:World) (hv:IsL IL w (.slice fa fn fc) m.l) (hB:MnB m) (h:¬Ok m):
 Calls Tryz.prog 61 #[mnVal fa fn fc m] w fun e w'=>e= .returned (putVal10 m)/\Below w.heap.size w w':=by
 unfold putVal10;rw [putM_no h];dsimp only;have HA:=zid ((Below.refl w.heap.size w).alloc (Nat.le_refl _) (.cells #[.int .i64 m.v,.slice fa fn fc,.int .i64 m.z,.int .u32 m.c] 65));have RR:=zdW fa fn fc m false _ (hv.keep HA.out) hB ⟨(fun h=>by cases h),fun hk=>absurd hk h⟩;unfold mnVal at*;replace RR:=zid RR;obtain ⟨mv,ml,mz,mc⟩:=m;dsimp only at*;clear hv h
 go_enter Tryz.func61,Tryz.ntmps61
 go_wp2_with fail;refine RR.out.mono ?_;rintro e w1 ⟨rfl,b1⟩;have B1:=zid (HA.out.trans (b1.mono HA.out.size));clear b1;go_wp2_with fail;go_ret2;exact ⟨rfl,B1.out⟩
theorem ze7 (fa:Option Addr) (fn fc:Nat) (m:Mn) (w:World) (hv:IsL IL w (.slice fa fn fc) m.l) (h:Ok m):
 Calls Tryz.prog 61 #[mnVal fa fn fc m] w fun e w'=>e= .returned (putVal10 m)/\Below w.heap.size w w':=by
 unfold putVal10;rw [putM_yes h];dsimp only;have hnn:=zbl h
 have hB:MnB m:=⟨⟨by have:=h.v0;omega,by have:=h.v1;omega⟩,by rcases h.z with ⟨_,h1,_⟩ | ⟨_,h1,h2⟩<;>omega,h.c⟩
 have HA:=zid ((Below.refl w.heap.size w).alloc (Nat.le_refl _) (.cells #[.int .i64 m.v,.slice fa fn fc,.int .i64 m.z,.int .u32 m.c] 65));have G0:=zid (heap_alloc_new w (.cells #[.int .i64 m.v,.slice fa fn fc,.int .i64 m.z,.int .u32 m.c] 65));have RR:=zdW fa fn fc m true _ (hv.keep HA.out) hB ⟨fun _=>h,fun _=>rfl⟩;unfold mnVal at*;replace RR:=zid RR;have HV:=zid hv;have hfl:=hv.len.1;obtain ⟨C,hC⟩:∃C:Nat,m.c=(C:Int):=⟨m.c.toNat,by have:=h.c;omega⟩
 have hC2:C<4294967296:=by have:=h.c;omega
 have hv0:=h.v0;have hv1:=h.v1
 have hn0:fn<=64:=by rw [hfl];exact h.n1
 have hz0:0<=m.z/\m.z<=65536:=by rcases h.z with ⟨_,h1,_⟩ | ⟨_,h1,h2⟩<;>omega
 have HL:=zid fun i (hi:i<fn)=>hnn (m.l.getD i 0) (by
  unfold nums;rw [hfl] at hi
  have e:m.l.getD i 0=m.l[i]:=by simp [List.getD_eq_getElem?_getD,hi]
  rw [e]
  simp)
 have HTK:=zid fun i (hi:i<fn)=>(show m.l.take (i+1)=m.l.take i++[m.l.getD i 0] from zbQ (by rw [<-hfl];exact hi))
 have HFR:=zid fun (B:ByteArray) (hb:B.data.toList=body m) (W:World)=>(show Calls Tryz.prog 78 #[.string B] W fun e w'=>e= .returned (.tuple #[.string ⟨(Fr.fr (body m)).toArray⟩,.int .i64 0])/\Below W.heap.size W w' from by
  have hs:B.size=(body m).length:=by rw [<-hb];rfl
  have:=zem B W (by rw [hs];exact body_may h);rw [hb] at this
  exact this)
 have HBD:=zid (show ∀R,R=puts (m.v::(fn:Int)::m.l.take fn)->(⟨R.toArray⟩++⟨(putI m.z).toArray⟩++⟨(zeF C).toArray⟩:ByteArray).data.toList=body m from fun R hR=>by
  subst hR;have e1:m.l.take fn=m.l:=List.take_of_length_le (by rw [hfl];exact Nat.le_refl _);rw [e1,zcV hz0.1];show puts (m.v::(fn:Int)::m.l)++Vp.put m.z.toNat++zeF C=_;unfold body nums;rw [hC,show ((C:Int)).toNat=C from by omega,show (m.v::(m.l.length:Int)::(m.l++[m.z]))=(m.v::(m.l.length:Int)::m.l)++[m.z] from rfl,zan,zb7,hfl]
  rfl)
 obtain ⟨mv,ml,mz,mc⟩:=m;dsimp only at*;subst hC;clear hv h hnn hfl;have hpl:(putI mz).length<=9:=za6 _;have hp1:(putI mv).length<=9:=za6 _;have hp2:(putI (fn:Int)).length<=9:=za6 _
 have s1:¬9223372036854775807<(putI mv).length+(putI (fn:Int)).length:=by omega
 have HP0:=zid (show (⟨(putI mv).toArray⟩++⟨(putI (fn:Int)).toArray⟩:ByteArray)=⟨(puts (mv::(fn:Int)::ml.take 0)).toArray⟩ by
  rw [ByteArray.mk_append_mk,zcV (by omega),zcV (by omega),List.take_zero,zbt,zbt,ziP,List.append_nil])
 go_enter Tryz.func61,Tryz.ntmps61
 go_wp2_with fail;refine RR.out.mono ?_;rintro e w1 ⟨rfl,b1⟩;have G1:=zid ((b1.block w.heap.size (Array.getElem?_eq_some_iff.1 G0.out).1).trans G0.out);have B1:=HA.out.trans (b1.mono HA.out.size);obtain ⟨x0,x1,x2,x3⟩:=cells4 G1.out;have ST:w1.cell? ⟨w.heap.size,0,none⟩=some (.int .i64 mv)/\w1.cell? ⟨w.heap.size,1,none⟩=some (.slice fa fn fc)/\w1.cell? ⟨w.heap.size,2,none⟩=some (.int .i64 mz)/\w1.cell? ⟨w.heap.size,3,none⟩=some (.int .u32 (C:Int))/\Below w.heap.size w w1:=⟨x0,x1,x2,x3,B1⟩;clear b1 x0 x1 x2 x3 B1 G0 HA RR;go_wp2_with fail
 go_region_held3 (fun W=>W.cell? ⟨w.heap.size,0,none⟩=some (.int .i64 mv)/\W.cell? ⟨w.heap.size,1,none⟩=some (.slice fa fn fc)/\W.cell? ⟨w.heap.size,2,none⟩=some (.int .i64 mz)/\W.cell? ⟨w.heap.size,3,none⟩=some (.int .u32 (C:Int))/\Below w.heap.size w W) (first | assumption | exact zeZ (by assumption) (Below.refl _ _).drew | exact zeZ (by assumption) (by assumption)) (first | (go_at_call 102;refine (zda _ _ (by omega) (by omega)).mono ?_;rintro e w4 ⟨rfl,b4⟩))
 rename_i qq;have HS4:=zid qq;clear qq ST;go_wp2_with fail
 go_loopw [4,5] (fun s i wr=>∃(k:Nat) (R:List UInt8),k<=fn/\i= .int .i64 k/\s= .string ⟨R.toArray⟩/\R=puts (mv::(fn:Int)::ml.take k)/\R.length<=9*(k+2)/\Hid (wr.cell? ⟨w.heap.size,0,none⟩=some (.int .i64 mv)/\wr.cell? ⟨w.heap.size,1,none⟩=some (.slice fa fn fc)/\wr.cell? ⟨w.heap.size,2,none⟩=some (.int .i64 mz)/\wr.cell? ⟨w.heap.size,3,none⟩=some (.int .u32 (C:Int))/\Below w.heap.size w wr))
  (fun _ i _=>fn-(intOf i).toNat)
 case atStart=>exact ⟨0,puts (mv::(fn:Int)::ml.take 0),Nat.zero_le _,rfl,by rw [HP0.out],rfl,by have:=puts_le (mv::(fn:Int)::ml.take 0);simp at this ⊢;omega,HS4⟩
 case round=>
  obtain ⟨k,R,hk,rfl,rfl,hR,hRl,HS⟩:=hrel;have HR:=zid hR;obtain ⟨x0,x1,x2,x3,hbw⟩:=HS.out;clear hR
  by_cases hlt:k<fn
  · obtain ⟨g,off,rfl,c0⟩:=il_at (HV.out.keep hbw) hlt
    obtain ⟨hf0,hf1⟩:=HL.out k hlt
    have HRS:=zid (show puts (mv::(fn:Int)::ml.take (k+1))=puts (mv::(fn:Int)::ml.take k)++Vp.put (ml.getD k 0).toNat by
     rw [HTK.out k hlt,show (mv::(fn:Int)::(ml.take k++[ml.getD k 0]))=(mv::(fn:Int)::ml.take k)++[ml.getD k 0] from rfl,zan,zb7])
    generalize ml.getD k 0=f at*;have P:=fun W:World=>zda f W (by omega) (by omega);rw [zcV hf0] at P;replace P:=zid P;have hp9:=zfL f.toNat;generalize Vp.put f.toNat=pf at*
    have s2:¬9223372036854775807<R.length+pf.length:=by omega
    clear hbw;go_wp2_with fail;refine (P.out _).mono ?_;rintro e w5 ⟨rfl,b5⟩;have HS5:=zid (zeZ HS.out b5);clear b5 x0 x1 x2 x3;go_wp2_with fail
    go_roundw
    case rel=>exact ⟨k+1,R++pf,by omega,by go_num,congrArg Value.string (ByteArray.mk_append_mk R pf),by rw [HRS.out, <-HR.out],by rw [List.length_append];omega,HS5⟩
    case measure=>simp [intOf];omega
  · obtain rfl:k=fn:=by omega
    have F:=HFR.out _ (HBD.out R HR.out)
    have s2:¬9223372036854775807<R.length+(putI mz).length:=by omega
    have s3:¬9223372036854775807<R.length+(putI mz).length+(zeF C).length:=by have:(zeF C).length=4:=rfl;omega
    replace F:=zid F;have ST2:wr.cell? ⟨w.heap.size,0,none⟩=some (.int .i64 mv)/\wr.cell? ⟨w.heap.size,1,none⟩=some (.slice fa k fc)/\wr.cell? ⟨w.heap.size,2,none⟩=some (.int .i64 mz)/\wr.cell? ⟨w.heap.size,3,none⟩=some (.int .u32 (C:Int))/\Below w.heap.size w wr:=HS.out;clear hbw;go_wp2_with fail;clear x0 x1 x2 x3
    go_region_held3 (fun W=>W.cell? ⟨w.heap.size,0,none⟩=some (.int .i64 mv)/\W.cell? ⟨w.heap.size,1,none⟩=some (.slice fa k fc)/\W.cell? ⟨w.heap.size,2,none⟩=some (.int .i64 mz)/\W.cell? ⟨w.heap.size,3,none⟩=some (.int .u32 (C:Int))/\Below w.heap.size w W) (first | assumption | exact zeZ (by assumption) (Below.refl _ _).drew | exact zeZ (by assumption) (by assumption)) (first | (go_at_call 102;refine (zda mz _ (by omega) (by omega)).mono ?_;rintro e w6 ⟨rfl,b6⟩) | (go_at_call 104;refine (zgK C _ hC2).mono ?_;rintro e w7 ⟨rfl,b7⟩) | (go_at_call 78;refine (F.out _).mono ?_;rintro e w8 ⟨rfl,b8⟩))
    go_wp2_with fail;go_ret2;rename_i qq;exact ⟨rfl,keep4r qq⟩
theorem rput10_any (fa:Option Addr) (fn fc:Nat) (m:Mn) (w:World) (hv:IsL IL w (.slice fa fn fc) m.l) (hB:MnB m):
 Calls Tryz.prog 61 #[mnVal fa fn fc m] w fun e w'=>e= .returned (putVal10 m)/\Below w.heap.size w w':=by
 by_cases h:Ok m
 · exact ze7 fa fn fc m w hv h
 · exact zkM fa fn fc m w hv hB h
end Mfs
namespace Dsk
open Go.RowKit Dp
theorem zkE (fv:Value) (D:Dk) (n:ByteArray) (w:World) (hv:IsL FL w fv D.f) (hS:Sm D):
 Calls Tryz.prog 35 #[zac fv D,.string n] w (ziu w fv D.f (sync D n)):=by
 obtain ⟨fa,fn,fc,rfl⟩:∃a n c,fv= .slice a n c:=by obtain ⟨a,c,h,_⟩:=hv;exact ⟨a,_,c,h⟩
 have F:=fun (W:World) (h:IsL FL W (.slice fa fn fc) D.f)=>zbE (.slice fa fn fc) D n W h;have CH:=zid fun (ga:Option Addr) (gn gc:Nat) (l:List Fl) (own:Int) (W:World)=>zby fa ga fn fc gn gc D l own W hS.b hS.l0;have WO:=zid fun (g:Fl) (W:World) (h:IsL FL W (.slice fa fn fc) D.f)=>zcT (.slice fa fn fc) D.f g W h hS.r.2.1 hS.n;have HFB:=zid hS.flb;have HFN:=zid hv.len.1;have HV:=zid hv;obtain ⟨g0,g1,gb,gs⟩:=zaR w #[.slice fa fn fc,.int .i64 D.c,.bool D.a,.int .i64 D.l,.bool D.x] #[.slice none 0 0,.int .i64 0,.bool false,.int .i64 0,.bool false] 24 24;have G0:=zid g0;have G1:=zid g1;have GB:=zid gb;have GS:=zid gs;clear g0 g1 gb gs hv;unfold sync
 rcases @zb8 D.f n with ⟨hf,hg⟩ | ⟨i,hi,hf,hg⟩
 · rw [hg]
   dsimp only
   simp only [hf] at F;unfold zac at F ⊢;replace F:=zid F;clear hf hg
   go_enter Tryz.func35,Tryz.ntmps35
   go_wp2_with fail;generalize World.alloc (World.alloc w _) _=w0 at G0 G1 GB GS ⊢;refine (F.out w0 (HV.out.keep GB.out)).mono ?_;rintro e w1 ⟨rfl,b1⟩;obtain ⟨p0,p1,p2,p3,p4⟩:=zaa (hkeep G0.out b1);have G1':=zid (hkeep G1.out b1);have B1:=zid (GB.out.trans (b1.mono (by have:=GS.out;omega)))
   have hs1:w.heap.size+1<w1.heap.size:=by have:=b1.size;have:=GS.out;omega
   clear b1;go_wp2_with fail;refine (CH.out none 0 0 [] 7 w1).mono ?_;rintro e w2 ⟨v,rfl,hc2,b2⟩
   obtain ⟨xa,xn,xc,rfl⟩:∃a n c,v= .slice a n c:=by
    rcases hc2 with ⟨h,_⟩ | ⟨h,_⟩
    · exact ⟨_,_,_,h⟩
    · exact ⟨_,_,_,h⟩
   obtain ⟨q0,q1,q2,q3,q4⟩:=zaa (hkeep G1'.out b2);obtain ⟨qf0,qf1,qf2,qf3,qf4⟩:=zae (hkeep G1'.out b2);have HC2:=zid hc2;have B2:=zid (B1.out.trans (b2.mono B1.out.size));clear hc2 b2;unfold zac;go_wp2_with fail;refine bodyPost_ret (v:= .tuple #[.agg #[.slice xa xn xc,.int .i64 (change D [] 7).1.c,.bool (change D [] 7).1.a,.int .i64 (change D [] 7).1.l,.bool (change D [] 7).1.x],.int .i64 (change D [] 7).2]) (by simp [results,Tryz.results35,go_sem,q0,q1,q2,q3,q4]) rfl ?_;refine ⟨xa,xn,xc,rfl,?_,zai B2.out (Nat.le_succ _) _ _ _ _ _⟩
   rcases HC2.out with ⟨h1,h2⟩ | ⟨h1,h2,_⟩
   · exact .inl ⟨h1,h2⟩
   · rw [h1,h2]
     exact .inr (OwnL.nil _ _)
 · obtain ⟨f,hfe⟩:∃f,D.f.getD i zero=f:=⟨_,rfl⟩
   rw [hg]
   dsimp only;simp only [hf] at F
   have hin:i<fn:=by rw [HFN.out];exact hi
   have hfb:FlB f:=by rw [<-hfe,zaF hi];exact HFB.out _ (List.getElem_mem hi)
   have hd:=hfb.2.1
   have hil:fn<=1000000:=by have:=hS.n;have:=HFN.out;omega
   unfold zac at F ⊢;replace F:=zid F;rw [hfe];clear hf hg hi hfb
   go_enter Tryz.func35,Tryz.ntmps35
   go_wp2_with fail;generalize World.alloc (World.alloc w _) _=w0 at G0 G1 GB GS ⊢;refine (F.out w0 (HV.out.keep GB.out)).mono ?_;rintro e w1 ⟨rfl,b1⟩;obtain ⟨p0,p1,p2,p3,p4⟩:=zaa (hkeep G0.out b1);have B1a:=GB.out.trans (b1.mono (by have:=GS.out;omega));obtain ⟨g,off,rfl,c0,c1,c2⟩:=zb0 (HV.out.keep B1a) hin;rw [hfe] at c0 c1 c2
   have hs1:w.heap.size+1<w1.heap.size:=by have:=b1.size;have:=GS.out;omega
   have hgl:=block_lt_of_cell c0;have G0w:=halloc (o:= .cells #[.string f.n,.string f.d,.int .i64 (f.d.size:Int)] 45) (hkeep G0.out b1);have G1w:=halloc (o:= .cells #[.string f.n,.string f.d,.int .i64 (f.d.size:Int)] 45) (hkeep G1.out b1);have GFw:=zid (heap_alloc_new w1 (.cells #[.string f.n,.string f.d,.int .i64 (f.d.size:Int)] 45));have B1w:=B1a.alloc B1a.size (.cells #[.string f.n,.string f.d,.int .i64 (f.d.size:Int)] 45)
   have hsw:(w1.alloc (.cells #[.string f.n,.string f.d,.int .i64 (f.d.size:Int)] 45)).heap.size=w1.heap.size+1:=by simp
   have G0':=zid (hkeep G0w (Below.refl _ _).drew);have G1':=zid (hkeep G1w (Below.refl _ _).drew);have B1:=zid B1w.drew;have WO0:=zid (WO.out ⟨f.n,f.d,(f.d.size:Int)⟩ (w1.alloc (.cells #[.string f.n,.string f.d,.int .i64 (f.d.size:Int)] 45)).drew (HV.out.keep B1.out));clear b1 WO B1a G0w G1w B1w hfe;go_wp2_with fail;generalize w1.alloc _=w3 at G0' G1' GFw B1 WO0 hsw ⊢;obtain ⟨r0,r1,r2⟩:=cells3 GFw.out;obtain ⟨y0,y1,y2,y3,y4⟩:=zaa (show w3.heap[w.heap.size]?=_ from G0'.out)
   replace hs1:w.heap.size+1<w3.heap.size:=by omega
   clear p0 p1 p2 p3 p4 c0 c1 c2
   go_region_with (first | ((with_reducible refine WO0.out.mono ?_);rintro e w4 ⟨lv,rfl,ho4,b4⟩;obtain ⟨ga,gn,gc,rfl⟩:=own_slice ho4;have HO4:=zid ho4;obtain ⟨z0,z1,z2,z3,z4⟩:=zaa (hkeep G0'.out b4);have G14:=zid (hkeep G1'.out b4);have B4:=zid (B1.out.trans (b4.mono B1.out.size));have hs4:=b4.size;clear ho4 b4) | (go_at_call 67;refine (CH.out ga gn gc (withF D.f ⟨f.n,f.d,(f.d.size:Int)⟩) 0 w4).mono ?_;rintro e w2 ⟨v,rfl,hc2,b2⟩;obtain ⟨xa,xn,xc,rfl⟩:∃a n c,v= .slice a n c:=(by rcases hc2 with ⟨h,_⟩ | ⟨h,_⟩<;>exact ⟨_,_,_,h⟩);obtain ⟨q0,q1,q2,q3,q4⟩:=zaa (hkeep G14.out b2);obtain ⟨qf0,qf1,qf2,qf3,qf4⟩:=zae (hkeep G14.out b2);have HC2:=zid hc2;have HO2:=zid (HO4.out.keep b2);have B2:=zid (B4.out.trans (b2.mono B4.out.size));clear hc2 b2;unfold zac))
   all_goals
    go_wp2_with fail
    refine bodyPost_ret (v:= .tuple #[.agg #[.slice xa xn xc,.int .i64 (change D (withF D.f ⟨f.n,f.d,(f.d.size:Int)⟩) 0).1.c,.bool (change D (withF D.f ⟨f.n,f.d,(f.d.size:Int)⟩) 0).1.a,.int .i64 (change D (withF D.f ⟨f.n,f.d,(f.d.size:Int)⟩) 0).1.l,.bool (change D (withF D.f ⟨f.n,f.d,(f.d.size:Int)⟩) 0).1.x],.int .i64 (change D (withF D.f ⟨f.n,f.d,(f.d.size:Int)⟩) 0).2]) (by simp [results,Tryz.results35,go_sem,q0,q1,q2,q3,q4]) rfl ?_;refine ⟨xa,xn,xc,rfl,?_,zai B2.out (Nat.le_succ _) _ _ _ _ _⟩
    rcases HC2.out with ⟨h1,h2⟩ | ⟨h1,h2,_⟩
    · exact .inl ⟨h1,h2⟩
    · refine .inr ?_
      rw [h1,h2]
      exact zaW (zbB HO2.out (k:=w.heap.size+1) hs1 _ _ _ _ _) B1.out.size
theorem zh6 (fv:Value) (D:Dk) (n:ByteArray) (w:World) (hv:IsL FL w fv D.f) (hS:Sm D) (hn:n.size<=9223372036854775807):
 Calls Tryz.prog 74 #[zac fv D,.string n] w (ziu w fv D.f (create D n)):=by
 obtain ⟨fa,fn,fc,rfl⟩:∃a n c,fv= .slice a n c:=by obtain ⟨a,c,h,_⟩:=hv;exact ⟨a,_,c,h⟩
 have F:=fun (W:World) (h:IsL FL W (.slice fa fn fc) D.f)=>zbE (.slice fa fn fc) D n W h;have CH:=zid fun (ga:Option Addr) (gn gc:Nat) (l:List Fl) (own:Int) (W:World)=>zby fa ga fn fc gn gc D l own W hS.b hS.l0;have WO:=zid fun (W:World) (h:IsL FL W (.slice fa fn fc) D.f)=>zcT (.slice fa fn fc) D.f ⟨n,⟨#[]⟩,0⟩ W h hS.r.2.1 hS.n;have M:=fun W:World=>zgW n W hn;have HV:=zid hv;obtain ⟨g0,g1,gb,gs⟩:=zaR w #[.slice fa fn fc,.int .i64 D.c,.bool D.a,.int .i64 D.l,.bool D.x] #[.slice none 0 0,.int .i64 0,.bool false,.int .i64 0,.bool false] 24 24;have G0:=zid g0;have G1:=zid g1;have GB:=zid gb;have GS:=zid gs;clear g0 g1 gb gs hv;unfold create
 by_cases hN:Named n
 · rw [if_neg (fun h=>h hN)]
   rw [decide_eq_true hN] at M
   replace M:=zid M
   rcases @zb8 D.f n with ⟨hf,hg⟩ | ⟨i,hi,hf,hg⟩
   · rw [hg,if_neg (by simp)]
     simp only [hf] at F
     unfold zac at F ⊢;replace F:=zid F;clear hf hg
     go_enter Tryz.func74,Tryz.ntmps74
     go_wp2_with fail;generalize World.alloc (World.alloc w _) _=w0 at G0 G1 GB GS ⊢;refine (M.out w0).mono ?_;rintro e w1 ⟨rfl,rfl⟩;obtain ⟨p0,p1,p2,p3,p4⟩:=zaa G0.out;go_wp2_with fail;clear p0 p1 p2 p3 p4;refine (F.out w0 (HV.out.keep GB.out)).mono ?_;rintro e w1 ⟨rfl,b1⟩;obtain ⟨p0,p1,p2,p3,p4⟩:=zaa (hkeep G0.out b1);have G0':=zid (hkeep (W:=w1) (W':=w1.drew) (hkeep G0.out b1) (Below.refl _ _).drew);have G1':=zid (hkeep (W:=w1) (W':=w1.drew) (hkeep G1.out b1) (Below.refl _ _).drew);have B1:=zid (show Below w.heap.size w w1.drew from (GB.out.trans (b1.mono (by have:=GS.out;omega))).drew)
     have hs1:w.heap.size+1<w1.heap.size:=by have:=b1.size;have:=GS.out;omega
     have WO0:=zid (WO.out w1.drew (HV.out.keep B1.out));clear b1 WO;go_wp2_with fail
     go_region_with (first | ((with_reducible refine WO0.out.mono ?_);rintro e w4 ⟨lv,rfl,ho4,b4⟩;obtain ⟨ga,gn,gc,rfl⟩:=own_slice ho4;have HO4:=zid ho4;obtain ⟨z0,z1,z2,z3,z4⟩:=zaa (hkeep G0'.out b4);have G14:=zid (hkeep G1'.out b4);have B4:=zid (B1.out.trans (b4.mono B1.out.size));have hs4:=b4.size;clear ho4 b4) | (go_at_call 67;refine (CH.out ga gn gc (withF D.f ⟨n,⟨#[]⟩,0⟩) 0 w4).mono ?_;rintro e w2 ⟨v,rfl,hc2,b2⟩;obtain ⟨xa,xn,xc,rfl⟩:∃a n c,v= .slice a n c:=(by rcases hc2 with ⟨h,_⟩ | ⟨h,_⟩<;>exact ⟨_,_,_,h⟩);obtain ⟨q0,q1,q2,q3,q4⟩:=zaa (hkeep G14.out b2);obtain ⟨qf0,qf1,qf2,qf3,qf4⟩:=zae (hkeep G14.out b2);have HC2:=zid hc2;have HO2:=zid (HO4.out.keep b2);have B2:=zid (B4.out.trans (b2.mono B4.out.size));clear hc2 b2;unfold zac))
     all_goals
      go_wp2_with fail
      refine bodyPost_ret (v:= .tuple #[.agg #[.slice xa xn xc,.int .i64 (change D (withF D.f ⟨n,⟨#[]⟩,0⟩) 0).1.c,.bool (change D (withF D.f ⟨n,⟨#[]⟩,0⟩) 0).1.a,.int .i64 (change D (withF D.f ⟨n,⟨#[]⟩,0⟩) 0).1.l,.bool (change D (withF D.f ⟨n,⟨#[]⟩,0⟩) 0).1.x],.int .i64 (change D (withF D.f ⟨n,⟨#[]⟩,0⟩) 0).2]) (by simp [results,Tryz.results74,go_sem,q0,q1,q2,q3,q4]) rfl ?_;refine ⟨xa,xn,xc,rfl,?_,zai B2.out (Nat.le_succ _) _ _ _ _ _⟩
      rcases HC2.out with ⟨h1,h2⟩ | ⟨h1,h2,_⟩
      · exact .inl ⟨h1,h2⟩
      · refine .inr ?_
        rw [h1,h2]
        exact zaW (zbB HO2.out (k:=w.heap.size+1) hs1 _ _ _ _ _) B1.out.size
   · rw [hg,if_pos (by rfl)]
     simp only [hf] at F
     have hil:i<=1000000:=by have:=hS.n;omega
     unfold zac at F ⊢;replace F:=zid F;clear hf hg
     go_enter Tryz.func74,Tryz.ntmps74
     go_wp2_with fail;generalize World.alloc (World.alloc w _) _=w0 at G0 G1 GB GS ⊢;refine (M.out w0).mono ?_;rintro e w1 ⟨rfl,rfl⟩;obtain ⟨p0,p1,p2,p3,p4⟩:=zaa G0.out;go_wp2_with fail;clear p0 p1 p2 p3 p4;refine (F.out w0 (HV.out.keep GB.out)).mono ?_;rintro e w1 ⟨rfl,b1⟩;obtain ⟨p0,p1,p2,p3,p4⟩:=zaa (hkeep G0.out b1);have G1':=zid (hkeep G1.out b1);have B1:=zid (GB.out.trans (b1.mono (by have:=GS.out;omega)))
     have hs1:w.heap.size+1<w1.heap.size:=by have:=b1.size;have:=GS.out;omega
     clear b1;go_wp2_with fail;refine (CH.out none 0 0 [] 8 w1).mono ?_;rintro e w2 ⟨v,rfl,hc2,b2⟩
     obtain ⟨xa,xn,xc,rfl⟩:∃a n c,v= .slice a n c:=by
      rcases hc2 with ⟨h,_⟩ | ⟨h,_⟩
      · exact ⟨_,_,_,h⟩
      · exact ⟨_,_,_,h⟩
     obtain ⟨q0,q1,q2,q3,q4⟩:=zaa (hkeep G1'.out b2);obtain ⟨qf0,qf1,qf2,qf3,qf4⟩:=zae (hkeep G1'.out b2);have HC2:=zid hc2;have B2:=zid (B1.out.trans (b2.mono B1.out.size));clear hc2 b2;unfold zac;go_wp2_with fail;refine bodyPost_ret (v:= .tuple #[.agg #[.slice xa xn xc,.int .i64 (change D [] 8).1.c,.bool (change D [] 8).1.a,.int .i64 (change D [] 8).1.l,.bool (change D [] 8).1.x],.int .i64 (change D [] 8).2]) (by simp [results,Tryz.results74,go_sem,q0,q1,q2,q3,q4]) rfl ?_;refine ⟨xa,xn,xc,rfl,?_,zai B2.out (Nat.le_succ _) _ _ _ _ _⟩
     rcases HC2.out with ⟨h1,h2⟩ | ⟨h1,h2,_⟩
     · exact .inl ⟨h1,h2⟩
     · rw [h1,h2]
       exact .inr (OwnL.nil _ _)
 · rw [if_pos hN]
   rw [decide_eq_false hN] at M
   replace M:=zid M;unfold zac at F ⊢;clear F
   go_enter Tryz.func74,Tryz.ntmps74
   go_wp2_with fail;generalize World.alloc (World.alloc w _) _=w0 at G0 G1 GB GS ⊢;refine (M.out w0).mono ?_;rintro e w1 ⟨rfl,rfl⟩;obtain ⟨p0,p1,p2,p3,p4⟩:=zaa G0.out;have G1':=zid G1.out;have B1:=zid GB.out;go_wp2_with fail;refine (CH.out none 0 0 [] 1 w0).mono ?_;rintro e w2 ⟨v,rfl,hc2,b2⟩
   obtain ⟨xa,xn,xc,rfl⟩:∃a n c,v= .slice a n c:=by
    rcases hc2 with ⟨h,_⟩ | ⟨h,_⟩
    · exact ⟨_,_,_,h⟩
    · exact ⟨_,_,_,h⟩
   obtain ⟨q0,q1,q2,q3,q4⟩:=zaa (hkeep G1'.out b2);obtain ⟨qf0,qf1,qf2,qf3,qf4⟩:=zae (hkeep G1'.out b2);have HC2:=zid hc2;have B2:=zid (B1.out.trans (b2.mono B1.out.size));clear hc2 b2;unfold zac;go_wp2_with fail;refine bodyPost_ret (v:= .tuple #[.agg #[.slice xa xn xc,.int .i64 (change D [] 1).1.c,.bool (change D [] 1).1.a,.int .i64 (change D [] 1).1.l,.bool (change D [] 1).1.x],.int .i64 (change D [] 1).2]) (by simp [results,Tryz.results74,go_sem,q0,q1,q2,q3,q4]) rfl ?_;refine ⟨xa,xn,xc,rfl,?_,zai B2.out (Nat.le_succ _) _ _ _ _ _⟩
   rcases HC2.out with ⟨h1,h2⟩ | ⟨h1,h2,_⟩
   · exact .inl ⟨h1,h2⟩
   · rw [h1,h2]
     exact .inr (OwnL.nil _ _)
theorem zhP (fv:Value) (D:Dk) (n m:ByteArray) (w:World) (hv:IsL FL w fv D.f) (hS:Sm D) (hm:m.size<=9223372036854775807):
 Calls Tryz.prog 110 #[zac fv D,.string n,.string m] w (ziu w fv D.f (rename D n m)):=by
 obtain ⟨fa,fn,fc,rfl⟩:∃a n c,fv= .slice a n c:=by obtain ⟨a,c,h,_⟩:=hv;exact ⟨a,_,c,h⟩
 have F:=fun (W:World) (h:IsL FL W (.slice fa fn fc) D.f)=>zbE (.slice fa fn fc) D n W h;have CH:=zid fun (ga:Option Addr) (gn gc:Nat) (l:List Fl) (own:Int) (W:World)=>zby fa ga fn fc gn gc D l own W hS.b hS.l0;have WO:=zid fun (W:World) (h:IsL FL W (.slice fa fn fc) D.f)=>zcS (.slice fa fn fc) D.f n W h (by have:=hS.n;omega);have hwl:(without D.f n).length<=D.f.length:=List.length_filter_le _ _;have RW:=zid fun (g:Fl) (ga:Option Addr) (gn gc:Nat) (W:World) (h:IsL FL W (.slice ga gn gc) (without D.f n))=>zcT (.slice ga gn gc) (without D.f n) g W h (hS.r.2.1.without n) (by have:=hS.n;omega);have HIS:=zid fun (W:World) (v:Value) (B:Nat) (h:OwnL FL W B v (without D.f n))=>h.is (by have:=hS.n;unfold maxLen;omega) (fun x hx=>hS.flb x (zaK.1 hx).1);have M:=fun W:World=>zgW m W hm;have HFB:=zid hS.flb;have HFN:=zid hv.len.1;have HV:=zid hv;obtain ⟨g0,g1,gb,gs⟩:=zaR w #[.slice fa fn fc,.int .i64 D.c,.bool D.a,.int .i64 D.l,.bool D.x] #[.slice none 0 0,.int .i64 0,.bool false,.int .i64 0,.bool false] 24 24;have G0:=zid g0;have G1:=zid g1;have GB:=zid gb;have GS:=zid gs;clear g0 g1 gb gs hv hwl;unfold rename
 rcases @zb8 D.f n with ⟨hf,hg⟩ | ⟨i,hi,hf,hg⟩
 · rw [hg]
   dsimp only
   simp only [hf] at F;unfold zac at F ⊢;replace F:=zid F;clear hf hg M
   go_enter Tryz.func110,Tryz.ntmps110
   go_wp2_with fail;generalize World.alloc (World.alloc w _) _=w0 at G0 G1 GB GS ⊢;refine (F.out w0 (HV.out.keep GB.out)).mono ?_;rintro e w1 ⟨rfl,b1⟩;obtain ⟨p0,p1,p2,p3,p4⟩:=zaa (hkeep G0.out b1);have G1':=zid (hkeep G1.out b1);have B1:=zid (GB.out.trans (b1.mono (by have:=GS.out;omega)))
   have hs1:w.heap.size+1<w1.heap.size:=by have:=b1.size;have:=GS.out;omega
   clear b1;go_wp2_with fail;refine (CH.out none 0 0 [] 7 w1).mono ?_;rintro e w2 ⟨v,rfl,hc2,b2⟩
   obtain ⟨xa,xn,xc,rfl⟩:∃a n c,v= .slice a n c:=by
    rcases hc2 with ⟨h,_⟩ | ⟨h,_⟩
    · exact ⟨_,_,_,h⟩
    · exact ⟨_,_,_,h⟩
   obtain ⟨q0,q1,q2,q3,q4⟩:=zaa (hkeep G1'.out b2);obtain ⟨qf0,qf1,qf2,qf3,qf4⟩:=zae (hkeep G1'.out b2);have HC2:=zid hc2;have B2:=zid (B1.out.trans (b2.mono B1.out.size));clear hc2 b2;unfold zac;go_wp2_with fail;refine bodyPost_ret (v:= .tuple #[.agg #[.slice xa xn xc,.int .i64 (change D [] 7).1.c,.bool (change D [] 7).1.a,.int .i64 (change D [] 7).1.l,.bool (change D [] 7).1.x],.int .i64 (change D [] 7).2]) (by simp [results,Tryz.results110,go_sem,q0,q1,q2,q3,q4]) rfl ?_;refine ⟨xa,xn,xc,rfl,?_,zai B2.out (Nat.le_succ _) _ _ _ _ _⟩
   rcases HC2.out with ⟨h1,h2⟩ | ⟨h1,h2,_⟩
   · exact .inl ⟨h1,h2⟩
   · rw [h1,h2]
     exact .inr (OwnL.nil _ _)
 · obtain ⟨f,hfe⟩:∃f,D.f.getD i zero=f:=⟨_,rfl⟩
   rw [hg]
   dsimp only;simp only [hf] at F
   have hin:i<fn:=by rw [HFN.out];exact hi
   have hfb:FlB f:=by rw [<-hfe,zaF hi];exact HFB.out _ (List.getElem_mem hi)
   have hd:=hfb.2.1
   have hil:fn<=1000000:=by have:=hS.n;have:=HFN.out;omega
   unfold zac at F ⊢;replace F:=zid F;rw [hfe]
   by_cases hN:Named m
   · rw [if_neg (fun h=>h hN)]
     rw [decide_eq_true hN] at M
     replace M:=zid M;clear hf hg hi hfb
     go_enter Tryz.func110,Tryz.ntmps110
     go_wp2_with fail;generalize World.alloc (World.alloc w _) _=w0 at G0 G1 GB GS ⊢;refine (F.out w0 (HV.out.keep GB.out)).mono ?_;rintro e w1 ⟨rfl,b1⟩;obtain ⟨p0,p1,p2,p3,p4⟩:=zaa (hkeep G0.out b1);have B1a:=GB.out.trans (b1.mono (by have:=GS.out;omega));obtain ⟨g,off,rfl,c0,c1,c2⟩:=zb0 (HV.out.keep B1a) hin;rw [hfe] at c0 c1 c2
     have hs1:w.heap.size+1<w1.heap.size:=by have:=b1.size;have:=GS.out;omega
     have hgl:=block_lt_of_cell c0;have G0w:=halloc (o:= .cells #[.string m,.string f.d,.int .i64 f.s] 45) (hkeep G0.out b1);have G1w:=halloc (o:= .cells #[.string m,.string f.d,.int .i64 f.s] 45) (hkeep G1.out b1);have GFw:=zid (heap_alloc_new w1 (.cells #[.string m,.string f.d,.int .i64 f.s] 45));have B1w:=B1a.alloc B1a.size (.cells #[.string m,.string f.d,.int .i64 f.s] 45)
     have hsw:(w1.alloc (.cells #[.string m,.string f.d,.int .i64 f.s] 45)).heap.size=w1.heap.size+1:=by simp
     have G0':=zid (hkeep G0w (Below.refl _ _).drew);have G1':=zid (hkeep G1w (Below.refl _ _).drew);have B1:=zid B1w.drew;have WO0:=zid (WO.out (w1.alloc (.cells #[.string m,.string f.d,.int .i64 f.s] 45)).drew (HV.out.keep B1.out));clear b1 WO B1a G0w G1w B1w hfe;go_wp2_with fail;refine (M.out w1).mono ?_;rintro e w1' ⟨rfl,rfl⟩;go_wp2_with fail;generalize w1.alloc _=w3 at G0' G1' GFw B1 WO0 hsw ⊢;obtain ⟨r0,r1,r2⟩:=cells3 GFw.out;obtain ⟨y0,y1,y2,y3,y4⟩:=zaa (show w3.heap[w.heap.size]?=_ from G0'.out);have GF':=zid (hkeep GFw.out (Below.refl _ _).drew)
     replace hs1:w.heap.size+1<w3.heap.size:=by omega
     clear p0 p1 p2 p3 p4 c0 c1 c2
     go_region_with (first | ((with_reducible refine WO0.out.mono ?_);rintro e w4 ⟨lv,rfl,ho4,b4⟩;obtain ⟨ga,gn,gc,rfl⟩:=own_slice ho4;have HI4:=zid (HIS.out _ _ _ ho4);have G04:=zid (hkeep G0'.out b4);obtain ⟨z0,z1,z2,z3,z4⟩:=zaa G04.out;obtain ⟨s0,s1,s2⟩:=cells3 (hkeep GF'.out b4);have G14:=zid (hkeep G1'.out b4);have B4:=zid (B1.out.trans (b4.mono B1.out.size));have hs4:=b4.size;clear ho4 b4) | (go_at_call 68;refine (RW.out ⟨m,f.d,f.s⟩ ga gn gc w4 HI4.out).mono ?_;rintro e w5 ⟨lv,rfl,ho5,b5⟩;obtain ⟨ka,kn,kc,rfl⟩:=own_slice ho5;have HO5:=zid ho5;obtain ⟨u0,u1,u2,u3,u4⟩:=zaa (hkeep G04.out b5);have G15:=zid (hkeep G14.out b5);have B5:=zid (B4.out.trans (b5.mono B4.out.size));have hs5:=b5.size;clear ho5 b5) | (go_at_call 67;refine (CH.out ka kn kc (withF (without D.f n) ⟨m,f.d,f.s⟩) 0 w5).mono ?_;rintro e w2 ⟨v,rfl,hc2,b2⟩;obtain ⟨xa,xn,xc,rfl⟩:∃a n c,v= .slice a n c:=(by rcases hc2 with ⟨h,_⟩ | ⟨h,_⟩<;>exact ⟨_,_,_,h⟩);obtain ⟨q0,q1,q2,q3,q4⟩:=zaa (hkeep G15.out b2);obtain ⟨qf0,qf1,qf2,qf3,qf4⟩:=zae (hkeep G15.out b2);have HC2:=zid hc2;have HO2:=zid (HO5.out.keep b2);have B2:=zid (B5.out.trans (b2.mono B5.out.size));clear hc2 b2;unfold zac))
     all_goals
      go_wp2_with fail
      refine bodyPost_ret (v:= .tuple #[.agg #[.slice xa xn xc,.int .i64 (change D (withF (without D.f n) ⟨m,f.d,f.s⟩) 0).1.c,.bool (change D (withF (without D.f n) ⟨m,f.d,f.s⟩) 0).1.a,.int .i64 (change D (withF (without D.f n) ⟨m,f.d,f.s⟩) 0).1.l,.bool (change D (withF (without D.f n) ⟨m,f.d,f.s⟩) 0).1.x],.int .i64 (change D (withF (without D.f n) ⟨m,f.d,f.s⟩) 0).2]) (by simp [results,Tryz.results110,go_sem,q0,q1,q2,q3,q4]) rfl ?_;refine ⟨xa,xn,xc,rfl,?_,zai B2.out (Nat.le_succ _) _ _ _ _ _⟩
      rcases HC2.out with ⟨h1,h2⟩ | ⟨h1,h2,_⟩
      · exact .inl ⟨h1,h2⟩
      · refine .inr ?_
        rw [h1,h2]
        exact zaW (zbB HO2.out (k:=w.heap.size+1) (by have:=hs4;have h3:w3.drew.heap.size=w3.heap.size:=rfl;omega) _ _ _ _ _) B4.out.size
   · rw [if_pos hN]
     rw [decide_eq_false hN] at M
     replace M:=zid M;clear hf hg hi hfb
     go_enter Tryz.func110,Tryz.ntmps110
     go_wp2_with fail;generalize World.alloc (World.alloc w _) _=w0 at G0 G1 GB GS ⊢;refine (F.out w0 (HV.out.keep GB.out)).mono ?_;rintro e w1 ⟨rfl,b1⟩;obtain ⟨p0,p1,p2,p3,p4⟩:=zaa (hkeep G0.out b1);have G1':=zid (hkeep G1.out b1);have B1:=zid (GB.out.trans (b1.mono (by have:=GS.out;omega)))
     have hs1:w.heap.size+1<w1.heap.size:=by have:=b1.size;have:=GS.out;omega
     clear b1;go_wp2_with fail;refine (M.out w1).mono ?_;rintro e w1' ⟨rfl,rfl⟩;go_wp2_with fail;refine (CH.out none 0 0 [] 1 w1).mono ?_;rintro e w2 ⟨v,rfl,hc2,b2⟩
     obtain ⟨xa,xn,xc,rfl⟩:∃a n c,v= .slice a n c:=by
      rcases hc2 with ⟨h,_⟩ | ⟨h,_⟩
      · exact ⟨_,_,_,h⟩
      · exact ⟨_,_,_,h⟩
     obtain ⟨q0,q1,q2,q3,q4⟩:=zaa (hkeep G1'.out b2);obtain ⟨qf0,qf1,qf2,qf3,qf4⟩:=zae (hkeep G1'.out b2);have HC2:=zid hc2;have B2:=zid (B1.out.trans (b2.mono B1.out.size));clear hc2 b2;unfold zac;go_wp2_with fail;refine bodyPost_ret (v:= .tuple #[.agg #[.slice xa xn xc,.int .i64 (change D [] 1).1.c,.bool (change D [] 1).1.a,.int .i64 (change D [] 1).1.l,.bool (change D [] 1).1.x],.int .i64 (change D [] 1).2]) (by simp [results,Tryz.results110,go_sem,q0,q1,q2,q3,q4]) rfl ?_;refine ⟨xa,xn,xc,rfl,?_,zai B2.out (Nat.le_succ _) _ _ _ _ _⟩
     rcases HC2.out with ⟨h1,h2⟩ | ⟨h1,h2,_⟩
     · exact .inl ⟨h1,h2⟩
     · rw [h1,h2]
       exact .inr (OwnL.nil _ _)
end Dsk
end Go.Proofs.YtooipogbmfkeeaaGreat

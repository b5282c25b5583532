/-
  Parts of what the laws of this seat stand on:RoUse,RoSet,MrRight.
-/
import Derived.Test.YtooipogbmfkeeaaGreatQr1
import Derived.Test.YtooipogbmfkeeaaGreatQr14
import Derived.Test.YtooipogbmfkeeaaGreatQr35
set_option maxRecDepth 100000
set_option maxHeartbeats 6400000
namespace Go.Proofs.YtooipogbmfkeeaaGreat
namespace Ro
open Go.RowKit So Dsk Rts Sto
theorem cut_s {D:Dp.Dk} {k:Nat} {fv:Value} {w:World} (h:Bd D k) (hk:k<=200000) (n:ByteArray) (m:Nat) (hm:m<=9223372036854775807) (hv:IsL FL w fv D.f):Calls Tryz.prog 97 #[zac fv D,.string n,.int .i64 (m:Int)] w (za2 w fv (Dp.cut D n m)):=
 (cut_any fv D n m w hv (zax h (by omega)) (by omega)).mono fun _ _ r=>dk_s r hv (zax (Lg.bd_cut h n m hm) (by omega))
theorem zlW (fa:Option Addr) (fn fc:Nat) (D:Dp.Dk) (n:ByteArray) (m:Nat) (w:World) (k:Nat) (hv:IsL FL w (.slice fa fn fc) D.f) (hS:Bd D k) (hk:k<=100000) (hm:m<=1000000000000):
 Calls Tryz.prog 55 #[zac (.slice fa fn fc) D,.string n,.int .i64 (m:Int)] w (za2 w (.slice fa fn fc) (Lg.cutT D n m)):=by
 have C0:=zid (Cw.start (w:=w) hv #[.slice none 0 0,.int .i64 0,.bool false,.int .i64 0,.bool false] 24);have RB:=fun (W:World) (h:IsL FL W (.slice fa fn fc) D.f)=>Dsk.read_any (.slice fa fn fc) D n W h hS.r.2.1 (by have:=hS.n;omega);have CT:=fun (W:World) (h:IsL FL W (.slice fa fn fc) D.f)=>cut_s hS (by omega) n m (by omega) h;have HCT:=zid (show Lg.cutT D n m=if m<((dat D n).getD []).length then Dp.cut D n m else (D,0) from rfl)
 obtain ⟨s,er,h2,h3⟩:∃(s:ByteArray) (er:Int),zbj D.f n= .tuple #[.string s,.int .i64 er]/\s.size=((dat D n).getD []).length:=by
  rcases zaJ D n with ⟨h1,h2⟩ | ⟨s,h1,h2,_⟩
  · exact ⟨_,_,h2,by rw [h1];rfl⟩
  · exact ⟨_,_,h2,by rw [h1];rfl⟩
 rw [h2] at RB;rw [<-h3] at HCT;obtain ⟨⟨T,E⟩,hT⟩:∃R,Dp.cut D n m=R:=⟨_,rfl⟩;rw [hT] at CT HCT;unfold zac at RB CT ⊢;replace RB:=zid RB;replace CT:=zid CT;clear hv hS h2 h3 hT
 go_enter Tryz.func55,Tryz.ntmps55
 go_upto_region 1 with (fail);obtain ⟨w0,hw0⟩:∃w0,(w.alloc (.cells #[.slice fa fn fc,.int .i64 D.c,.bool D.a,.int .i64 D.l,.bool D.x] 24)).alloc (.cells #[.slice none 0 0,.int .i64 0,.bool false,.int .i64 0,.bool false] 24)=w0:=⟨_,rfl⟩;unfold dC at C0;rw [hw0] at C0 ⊢;have C0:=zid (show Cw w (.slice fa fn fc) w.heap.size (.slice fa fn fc) D (w.heap.size+1) dZ [] w0 from C0.out);clear hw0;obtain ⟨p0,p1,p2,p3,p4⟩:=zaa C0.out.d;go_wp2_with fail;refine (RB.out _ C0.out.f).mono ?_;rintro e w1 ⟨rfl,b1⟩;have C1:=zid (C0.out.keep b1);clear p0 p1 p2 p3 p4 b1 C0 RB;obtain ⟨p0,p1,p2,p3,p4⟩:=zaa C1.out.d
 by_cases hlt:m<s.size
 · have HF:=zid (HCT.out.trans (if_pos hlt))
   have hi:¬(s.size:Int)<=(m:Int):=by omega
   clear HCT hlt;go_wp2_with fail;refine (CT.out _ C1.out.f).mono ?_;rintro e w5 ⟨b5,n5,c5,rfl,ks⟩;obtain ⟨z0,z1,z2,z3,z4⟩:=zaa (hkeep C1.out.r ks.w);obtain ⟨zf0,zf1,zf2,zf3,zf4⟩:=zae (hkeep C1.out.r ks.w);have LY:=zid (C1.out.fin ks);clear ks p0 p1 p2 p3 p4 CT;unfold zac;go_wp2_with fail;obtain ⟨Y,hY,hr,hA⟩:=LY.out;rw [hY];obtain ⟨x0,x1,x2,x3,x4⟩:=zaa hr;refine bodyPost_ret (v:= .tuple #[zac (.slice b5 n5 c5) T,.int .i64 E]) (by unfold zac;simp [results,Tryz.results55,go_sem,x0,x1,x2,x3,x4]) rfl ?_;rw [HF.out];exact hA E
 · have HF:=zid (HCT.out.trans (if_neg hlt))
   have hi:(s.size:Int)<=(m:Int):=by omega
   obtain ⟨z0,z1,z2,z3,z4⟩:=zaa C1.out.r;obtain ⟨zf0,zf1,zf2,zf3,zf4⟩:=zae C1.out.r;clear HCT hlt CT;go_wp2_with fail;obtain ⟨Y,hY,hr,hA⟩:=C1.out.ret;rw [hY];obtain ⟨x0,x1,x2,x3,x4⟩:=zaa hr;refine bodyPost_ret (v:= .tuple #[zac (.slice fa fn fc) D,.int .i64 0]) (by unfold zac;simp [results,Tryz.results55,go_sem,x0,x1,x2,x3,x4]) rfl ?_;rw [HF.out];exact hA 0
structure Iw (w:World) (fv gv:Value) (S:St) (m n:Nat) (U:List ByteArray) (W:World):Prop where
 c:W.heap[w.heap.size]?=some (.cells #[fv,.int .i64 S.d.c,.bool S.d.a,.int .i64 S.d.l,.bool S.d.x,.int .i64 S.v,gv,.int .i64 S.x,.int .i64 S.s,.int .i64 S.z,.int .u32 S.c] 30 (0,0))
 g:IsL Rts.SL W gv S.g
 p:Sep gv m
 s:zbK W m n U
 lt:w.heap.size<m
 w:Below w.heap.size w W
theorem Iw.keep {w W W':World} {fv gv:Value} {S:St} {m n:Nat} {U:List ByteArray} (h:Iw w fv gv S m n U W) (k:Below W.heap.size W W'):Iw w fv gv S m n U W':=
 ⟨hkeep h.c k,h.g.keep k,h.p,h.s.keep k,h.lt,h.w.trans (k.mono (Nat.le_of_lt (Array.getElem?_eq_some_iff.1 h.c).1))⟩
theorem Iw.put {w W W':World} {fv gv:Value} {S:St} {m n n':Nat} {U U':List ByteArray} (h:Iw w fv gv S m n U W) (hs:zbK W' m n' U') (g:W.grownBy W' (some m)):Iw w fv gv S m n' U' W':=by
 have hl:=h.lt;have hw:=(Array.getElem?_eq_some_iff.1 h.c).1
 exact ⟨(g.block _ hw (fun e=>by injection e with e;omega)).trans h.c,IsL.grown12 h.g g (fun t e=>by injection e with e;rw [<-e];exact h.p),h.p,hs,hl,h.w.grown g (Nat.le_of_lt hw) (fun t e=>by injection e with e;omega)⟩
theorem zbK.more {w:World} {b n n':Nat} {U:List ByteArray} (h:zbK w b n U) (hn:n<=n'):zbK w b n' U:=by
 obtain ⟨D,h1,h2⟩:=h;exact ⟨D,h1.mono hn,h2⟩
theorem zgX {t:UInt8} {b:Int} (h:0<=b/\b<=1099511627776):(⟨(Np.nameL t b).toArray⟩:ByteArray).size<=maxLen:=by
 obtain ⟨n,rfl⟩:∃n:Nat,b=(n:Int):=⟨b.toNat,by omega⟩;rw [zam,Np.name_len t (by omega)];unfold maxLen;omega
theorem zif (fv:Value) (ga:Option Addr) (gn gc:Nat) (S:St) (w:World) (hg:IsL Rts.SL w (.slice ga gn gc) S.g) (hn:S.g≠[]) (hB:∀g∈S.g,0<=g.b/\g.b<=1099511627776) (hl:gn<=1000):
 Calls Tryz.prog 53 #[zag fv (.slice ga gn gc) S] w fun e w'=>∃m n,e= .returned (.map (some m))/\w.heap.size<=m/\zbK w' m n (Lg.useS S)/\Below w.heap.size w w':=by
 have hmm:= @run_makeMap Tryz.prog;have hgl:=hg.len.1
 have hfb:0<=floor S/\floor S<=1099511627776:=by
  unfold floor
  cases h:S.g with
  | nil=>exact absurd h hn
  | cons g t=>exact hB g (by rw [h];exact mcs)
 have HB:=zid fun j (h:j<gn)=>hB (S.g.getD j Rt.zero) (by rw [zao (by omega)];exact List.getElem_mem _);have FLO:=zid fun (W:World) (h:IsL Rts.SL W (.slice ga gn gc) S.g)=>zig fv (.slice ga gn gc) S W h hn;have SNP:=zid fun (W:World)=>ziI (floor S) W (by omega);have HSN:=zid (zgX (t:=116) hfb);obtain ⟨L,hL⟩:∃L,(S.g.map fun g=>segN g.b)=L:=⟨_,rfl⟩;have HU:=zid (show Lg.useS S=(⟨#[109]⟩:ByteArray)::((if 0<floor S then [⟨(Np.nameL 116 (floor S)).toArray⟩] else [])++L) by rw [<-hL];rfl)
 have HT:=zid fun j (h:j<gn)=>(show L.take (j+1)=L.take j++[⟨(Np.nameL 115 (S.g.getD j Rt.zero).b).toArray⟩] by
  have hj:j<S.g.length:=by omega
  rw [<-hL,List.take_succ_eq_append_getElem (by rw [List.length_map];exact hj),List.getElem_map,zao hj];rfl)
 have HLL:=zid (show L.length=gn by rw [<-hL,List.length_map,hgl])
 have hm2:(2:Nat)<maxLen:=by unfold maxLen;omega
 have h109:(⟨#[109]⟩:ByteArray).size<=maxLen:=by unfold maxLen;decide
 have I0:=zid fun (W:World) (h:Below w.heap.size w W)=>hg.keep h;have G0:=zid (heap_alloc_new w (.cells #[fv,.int .i64 S.d.c,.bool S.d.a,.int .i64 S.d.l,.bool S.d.x,.int .i64 S.v,.slice ga gn gc,.int .i64 S.x,.int .i64 S.s,.int .i64 S.z,.int .u32 S.c] 30));have B0:=zid ((Below.refl w.heap.size w).alloc (Nat.le_refl _) (.cells #[fv,.int .i64 S.d.c,.bool S.d.a,.int .i64 S.d.l,.bool S.d.x,.int .i64 S.v,.slice ga gn gc,.int .i64 S.x,.int .i64 S.s,.int .i64 S.z,.int .u32 S.c] 30));have SEP:=zid fun m (h:w.heap.size<=m)=>IsL.sep_new hg h;have hfi:(0<floor S)\/ ¬0<floor S:=Classical.em _;clear hg hn hB hL hgl hfb;unfold zag at FLO ⊢;generalize floor S=fl at*
 go_enter Tryz.func53,Tryz.ntmps53
 go_upto_region 1 with (fail);generalize World.alloc w _=w0 at G0 B0 ⊢;have hs0:=(Array.getElem?_eq_some_iff.1 G0.out).1;have M0:=zbK.made w0;have hal:=(Below.refl w0.heap.size w0).alloc (Nat.le_refl _) (.map #[] 0);have HI0:=zid (show Iw w fv (.slice ga gn gc) S w0.heap.size 0 [] (w0.alloc (.map #[] 0)) from ⟨hkeep G0.out hal,I0.out _ (B0.out.trans (hal.mono B0.out.size)),SEP.out _ B0.out.size,M0,hs0,B0.out.trans (hal.mono B0.out.size)⟩);clear M0 hal
 go_upto_region 2 with (first | (refine zcc _ rfl _ _ _ (.inr rfl) w0.heap.size 0 [] rfl HI0.out.s (by omega) ⟨#[109]⟩ rfl h109 rfl ?_;intro w1 hs1 hg1))
 have HI1:=zid (HI0.out.put hs1 hg1);generalize w0.heap.size=m at HI1 ⊢;clear hs1 hg1 HI0 hs0 G0 B0 I0 SEP hmm h109;obtain ⟨⟨k0,k1,k2,k3,k4⟩,k5,k6,k7,k8,k9,k10⟩:=zab HI1.out.c;go_wp2_with fail;refine (FLO.out _ HI1.out.g).mono ?_;rintro e w2 ⟨rfl,b2⟩;have HI2:=zid (HI1.out.keep b2);clear b2 HI1 FLO k0 k1 k2 k3 k4 k5 k6 k7 k8 k9 k10;obtain ⟨X,hX⟩:∃X:List ByteArray,(if 0<fl then [(⟨(Np.nameL 116 fl).toArray⟩:ByteArray)] else [])=X:=⟨_,rfl⟩;rw [hX] at HU
 rcases hfi with hfi | hfi
 case' inl=>
  rw [if_pos (by omega)] at hX;go_wp2_with fail;refine (SNP.out _).mono ?_;rintro e w3 ⟨rfl,b3⟩;have HI3:=zid (HI2.out.keep b3);clear b3
  go_upto_region 5 with (first | (at_mapUpdate;refine zcc _ rfl _ _ _ (.inl rfl) m 1 [⟨#[109]⟩] rfl HI3.out.s (by omega) ⟨(Np.nameL 116 fl).toArray⟩ rfl HSN.out rfl ?_;intro w4 hs4 hg4))
  have HI4:=zid (show Iw w fv (.slice ga gn gc) S m 2 ((⟨#[109]⟩:ByteArray)::X) w4 from by rw [<-hX];exact HI3.out.put hs4 hg4);clear hs4 hg4 HI3
 case' inr=>
  rw [if_neg (by omega)] at hX;go_upto_region 5 with (fail);obtain ⟨w4,hw4⟩:∃w4,w2=w4:=⟨_,rfl⟩;rw [hw4] at HI2 ⊢;have HI4:=zid (show Iw w fv (.slice ga gn gc) S m 2 ((⟨#[109]⟩:ByteArray)::X) w4 from by rw [<-hX];exact HI2.out.put (HI2.out.s.more (by omega)) ⟨rfl,rfl,rfl,Nat.le_refl _,fun _ _ _=>rfl⟩);clear hw4
 all_goals
  clear hX hfi HI2 SNP HSN
  obtain ⟨⟨k0,k1,k2,k3,k4⟩,k5,k6,k7,k8,k9,k10⟩:=zab HI4.out.c;go_wp2_with fail
  go_loopw [19] (fun i wr=>∃j:Nat,j<=gn/\i= .int .i64 j/\Hid (Iw w fv (.slice ga gn gc) S m (2+j) ((⟨#[109]⟩:ByteArray)::(X++L.take j)) wr)) (fun i _=>gn-(intOf i).toNat)
  case atStart=>exact ⟨0,Nat.zero_le _,rfl,zid (by rw [List.take_zero,List.append_nil];exact HI4.out)⟩
  case round=>
   clear k0 k1 k2 k3 k4 k5 k6 k7 k8 k9 k10 HI4;obtain ⟨j,hj,rfl,HI⟩:=hrel
   by_cases hlt:j<gn
   · obtain ⟨ab,ao,rfl,c0,c1,c2⟩:=zck HI.out.g hlt
     have hb:=HB.out j hlt
     have HNS:=zid (zgX (t:=115) hb);have HTj:=zid (HT.out j hlt)
     have hm3:2+j<maxLen:=by unfold maxLen;omega
     generalize S.g.getD j Rt.zero=g at c0 c1 c2 hb HNS HTj;have SGN:=zid fun W:World=>zfD g.b W (by omega);go_wp2_with fail;refine (SGN.out _).mono ?_;rintro e w5 ⟨rfl,b5⟩;have HI5:=zid ((HI.out.keep (zaC wr (.cells #[.int .i64 g.b,.int .i64 g.n,.int .i64 g.z] 75))).keep b5);clear b5 c0 c1 c2 hb SGN
     go_wp2_with (first | (at_mapUpdate;refine zcc _ rfl _ _ _ (.inl rfl) m (2+j) ((⟨#[109]⟩:ByteArray)::(X++L.take j)) rfl HI5.out.s hm3 ⟨(Np.nameL 115 g.b).toArray⟩ rfl HNS.out rfl ?_;intro w6 hs6 hg6))
     go_roundw
     case rel=>exact ⟨j+1,by omega,by go_num,zid (by rw [HTj.out, <-List.append_assoc, <-List.cons_append];exact HI5.out.put hs6 hg6)⟩
     case measure=>simp [intOf];omega
   · have HF:=zid (show (⟨#[109]⟩:ByteArray)::(X++L.take j)=Lg.useS S by rw [HU.out,List.take_of_length_le (by rw [HLL.out];omega)])
     go_wp2_with fail
     go_ret;exact ⟨m,_,rfl,Nat.le_of_lt HI.out.lt,by rw [<-HF.out];exact HI.out.s,HI.out.w⟩
def sC (fv gv:Value) (S:St):Obj:= .cells #[fv,.int .i64 S.d.c,.bool S.d.a,.int .i64 S.d.l,.bool S.d.x,.int .i64 S.v,gv,.int .i64 S.x,.int .i64 S.s,.int .i64 S.z,.int .u32 S.c] 30
theorem NwR.cw {w W:World} {v0 fv:Value} {X:Obj} {l:List Dp.Fl} {D:Dp.Dk} {t:Nat} (h:NwR w w.heap.size v0 (.slice none 0 0) [(w.heap.size+1,dZ),(w.heap.size,X)] [(fv,l)] [] D t W):∃a n c,Cw w v0 t (.slice a n c) D (w.heap.size+1) dZ [(w.heap.size,X)] W:=by
 obtain ⟨a,n,c,h1,h2⟩:=h;refine ⟨a,n,c,h1 _ mcs,fun p hp=>⟨h1 p (mcm hp),?_⟩,h2.sub (fun _ h=>h) (fun p hp=>?_) (fun _ h=>h)⟩
 · rw [List.mem_singleton] at hp
   rw [hp]
   show w.heap.size≠w.heap.size+1;omega
 · rw [List.mem_singleton] at hp
   rw [hp]
   exact mcs
theorem zir {D:Dp.Dk} {k:Nat} (h:Bd D k) (n:ByteArray) (m:Nat) (hm:m<=9223372036854775807):Bd (Lg.cutT D n m).1 (k+1):=by
 unfold Lg.cutT
 split
 · exact Lg.bd_cut h n m hm
 · exact h.mono (Nat.le_succ k)
theorem zfC (fa ga:Option Addr) (fn fc gn gc:Nat) (S:St) (w:World) (k:Nat) (hv:IsL FL w (.slice fa fn fc) S.d.f) (hg:IsL Rts.SL w (.slice ga gn gc) S.g) (hn:S.g≠[]) (hB:∀g∈S.g,(0<=g.b/\g.b<=1099511627776)/\0<=g.z/\g.z<=1000000000000) (hl:gn<=1000) (hS:Bd S.d k) (hk:k<=10000):
 Calls Tryz.prog 25 #[zag (.slice fa fn fc) (.slice ga gn gc) S] w (za2 w (.slice fa fn fc) (Lg.settT S)):=by
 have hgl:=hg.len.1;have hpos:0<S.g.length:=List.length_pos_iff.2 hn;obtain ⟨m1,rfl⟩:∃m,gn=m+1:=⟨gn-1,by omega⟩
 have hm:S.g.length-1=m1:=by omega
 have hlast:=hB (lastG S) (by unfold lastG;rw [zao (show S.g.length-1<S.g.length by omega)];exact List.getElem_mem _);have IU:=zid fun (W:World) (h:IsL Rts.SL W (.slice ga (m1+1) gc) S.g)=>zif (.slice fa fn fc) ga (m1+1) gc S W h hn (fun g hg=>(hB g hg).1) hl;have CL:=fun (W:World) (mv:Value) (h:IsL FL W (.slice fa fn fc) S.d.f) (hs:zcK W mv (Lg.useS S))=>zdK fa fn fc S.d mv (Lg.useS S) W k h hS hk hs;have HB1:=Lg.bd_sweep hS (Lg.useS S)
 have HR:=show Lg.settT S=if (Lg.sweep S.d (Lg.useS S)).2≠0 then Lg.sweep S.d (Lg.useS S) else Lg.endT (Lg.sweep S.d (Lg.useS S)).1 (segN (lastG S).b) (lastG S).z.toNat from rfl
 obtain ⟨⟨D1,E1⟩,h1⟩:∃R,Lg.sweep S.d (Lg.useS S)=R:=⟨_,rfl⟩;rw [h1] at CL HB1 HR;dsimp only at HB1 HR;have HL:=zid (show S.g.getD m1 Rt.zero=lastG S by unfold lastG;rw [hm]);have HG:=zid hg;obtain ⟨g,hgg⟩:∃g,lastG S=g:=⟨_,rfl⟩;rw [hgg] at HL HR hlast;obtain ⟨z,hz⟩:∃z:Nat,g.z=(z:Int):=⟨g.z.toNat,by omega⟩
 have hzt:g.z.toNat=z:=by omega
 rw [hzt] at HR;obtain ⟨nn,hnn⟩:∃nn,segN g.b=nn:=⟨_,rfl⟩;have SGN:=fun W:World=>zfD g.b W (by omega);rw [hnn] at HR
 have HNN:=show (⟨(Np.nameL 115 g.b).toArray⟩:ByteArray)=nn from hnn
 rw [HNN] at SGN;have CT:=fun (a:Option Addr) (n c:Nat) (W:World) (h:IsL FL W (.slice a n c) D1.f)=>zlW a n c D1 nn z W (k+k) h HB1 (by omega) (by omega);have HB2:=zir HB1 nn z (by omega)
 have HE:=show Lg.endT D1 nn z=if (Lg.cutT D1 nn z).2≠0 then Lg.cutT D1 nn z else Dp.sync (Lg.cutT D1 nn z).1 nn from rfl
 obtain ⟨⟨D2,E2⟩,h2⟩:∃R,Lg.cutT D1 nn z=R:=⟨_,rfl⟩;rw [h2] at CT HB2 HE;dsimp only at HB2 HE;have SY:=fun (a:Option Addr) (n c:Nat) (W:World) (h:IsL FL W (.slice a n c) D2.f)=>sync_s HB2 (by omega) nn h;obtain ⟨⟨D3,E3⟩,h3⟩:∃R,Dp.sync D2 nn=R:=⟨_,rfl⟩;rw [h3] at SY HE;have M0:=((Ms.start (gv:= .slice none 0 0) (lg:=[]) hv (IsL.nil w none 0)).alloc #[.slice fa fn fc,.int .i64 S.d.c,.bool S.d.a,.int .i64 S.d.l,.bool S.d.x,.int .i64 S.v,.slice ga (m1+1) gc,.int .i64 S.x,.int .i64 S.s,.int .i64 S.z,.int .u32 S.c] 30).alloc #[.slice none 0 0,.int .i64 0,.bool false,.int .i64 0,.bool false] 24;rw [World.size_alloc] at M0;have HM0:=zid (M0.sub (gs':=[]) (fun _ h=>h) (fun _ h=>h) (fun p hp=>absurd hp List.not_mem_nil));unfold zag at IU ⊢;unfold zac at CL CT SY;replace CL:=zid CL;replace CT:=zid CT;replace SY:=zid SY;replace SGN:=zid SGN;replace HR:=zid HR;replace HE:=zid HE;have HZ:=zid hz;clear hv hg hn hB hS HB1 HB2 h1 h2 h3 hgl hpos hm hgg hnn HNN hlast hz hzt M0
 go_enter Tryz.func25,Tryz.ntmps25
 go_upto_region 1 with (fail);obtain ⟨w0,hw0⟩:∃w0,(w.alloc (.cells #[.slice fa fn fc,.int .i64 S.d.c,.bool S.d.a,.int .i64 S.d.l,.bool S.d.x,.int .i64 S.v,.slice ga (m1+1) gc,.int .i64 S.x,.int .i64 S.s,.int .i64 S.z,.int .u32 S.c] 30)).alloc (.cells #[.slice none 0 0,.int .i64 0,.bool false,.int .i64 0,.bool false] 24)=w0:=⟨_,rfl⟩;rw [hw0] at HM0 ⊢;clear hw0;have TT:=zid (show Ms w w.heap.size (.slice fa fn fc) (.slice none 0 0) [(w.heap.size+1,dZ),(w.heap.size,sC (.slice fa fn fc) (.slice ga (m1+1) gc) S)] [(.slice fa fn fc,S.d.f)] [] w0 from HM0.out);clear HM0;obtain ⟨⟨k0,k1,k2,k3,k4⟩,k5,k6,k7,k8,k9,k10⟩:=zab (TT.out.at_ (t:=w.heap.size) (mcm mcs));have HGW:=zid fun (W:World) (h:Below w0.heap.size w0 W)=>HG.out.keep (TT.out.w.trans (h.mono TT.out.le));have hlt:w.heap.size<w0.heap.size:=TT.out.lt (t:=w.heap.size) (mcm mcs)
 go_cut [4,5] (fun p v wc=>∃t:Nat,p= .pointer (some ⟨t,0,none⟩)/\v= .int .i64 E1/\NwR w w.heap.size (.slice fa fn fc) (.slice none 0 0) [(w.heap.size+1,dZ),(w.heap.size,sC (.slice fa fn fc) (.slice ga (m1+1) gc) S)] [(.slice fa fn fc,S.d.f)] [] D1 t wc)
 case first=>
  go_region_held3 (fun W=>(∀b o,b<w0.heap.size->W.cell? ⟨b,o,none⟩=w0.cell? ⟨b,o,none⟩)/\Below w0.heap.size w0 W) (first | with_reducible assumption | with_reducible exact KW.al5 (by assumption) | with_reducible exact KW.al (by assumption) | with_reducible exact KW.ad (KW.start _) | with_reducible exact KW.ad (by assumption) | with_reducible exact KW.dr _ | with_reducible exact KW.st5 (by assumption) (by assumption) | with_reducible exact KW.keep (by assumption) (Below.refl _ _).drew | with_reducible exact KW.keep (by assumption) (by assumption)) (first | (go_at_call 53;refine (IU.out _ (HGW.out _ (KW.bel (by assumption)))).mono ?_;rintro e w4 ⟨m,n,rfl,hm4,hs4,b4⟩;have s4:=KW.keep (by assumption) b4;have h4:w0.heap.size<=w4.heap.size:=s4.2.size;(first | (with_reducible have z4:=hkeep (zbg _ _ _) b4;have y4:w0.heap.size<w4.heap.size:=Nat.lt_of_lt_of_le (zbP _ _) b4.size;have x4:w0.heap.size<=w0.heap.size:=Nat.le_refl _) | skip)) | (go_at_call 48;refine (CL.out _ _ ((TT.out.fl mcs).keep (KW.bel (by assumption))) (.inr ⟨_,_,rfl,by first | exact hs4 | exact hs4.keep (zaC _ _) | exact hs4.keep (zaC _ _).drew⟩)).mono ?_;rintro e w5 ⟨a5,n5,c5,rfl,k5'⟩;have q5:=k5'.w;have s5:=KW.keep (by assumption) q5;have q4:=KW.at (by assumption) q5;(first | (with_reducible have z5:=hkeep (heap_alloc_new _ _) q5) | (with_reducible have z5:=hkeep z4 q5) | skip);(first | (have zc:=zaa z5;have zf:=zae z5;obtain ⟨y0,y1,y2,y3,y4⟩:=zc;obtain ⟨yf0,yf1,yf2,yf3,yf4⟩:=zf) | skip);unfold zac))
  all_goals
   go_wp2_with fail
   go_meet
   case rel=>
    first
     | (refine ⟨_,rfl,rfl,?_⟩;with_reducible exact NwR.A TT.out q4 k5')
     | (refine ⟨_,rfl,rfl,?_⟩;with_reducible exact NwR.B TT.out q4 k5' z5 (by assumption) (by first | assumption | simp))
 case rest=>
  clear k0 k1 k2 k3 k4 k5 k6 k7 k8 k9 k10 IU CL TT HGW;obtain ⟨t,rfl,rfl,NW⟩:=hcut;obtain ⟨a,n,c,C1⟩:=NW.cw;clear NW;have C1:=zid C1;obtain ⟨d0,d1,d2,d3,d4⟩:=zaa C1.out.d;obtain ⟨z0,z1,z2,z3,z4⟩:=zaa C1.out.r;obtain ⟨zf0,zf1,zf2,zf3,zf4⟩:=zae C1.out.r
  by_cases hE1:E1=0
  case neg=>
   have HF:=zid (HR.out.trans (if_pos hE1))
   have he:(E1 != 0)=true:=by simpa using hE1
   clear HR HE CT SY SGN;go_wp2_with fail;obtain ⟨Y,hY,hr,hA⟩:=C1.out.ret;rw [hY];obtain ⟨x0,x1,x2,x3,x4⟩:=zaa hr;refine bodyPost_ret (v:= .tuple #[zac (.slice a n c) D1,.int .i64 E1]) (by unfold zac;simp [results,Tryz.results25,go_sem,x0,x1,x2,x3,x4]) rfl ?_;rw [HF.out];exact hA E1
  case pos=>
  subst hE1;replace HR:=zid (HR.out.trans (if_neg (fun h=>h rfl)));obtain ⟨⟨k0,k1,k2,k3,k4⟩,k5,k6,k7,k8,k9,k10⟩:=zab (C1.out.x (p:=(w.heap.size,sC (.slice fa fn fc) (.slice ga (m1+1) gc) S)) (List.mem_singleton.2 rfl));obtain ⟨sb,so,rfl,c0,c1,c2⟩:=zck (HG.out.keep C1.out.bw) (Nat.lt_succ_self m1);rw [HL.out] at c0 c1 c2;rw [HZ.out] at c2
  have hmw:IntKind.i64.wrap (((m1+1:Nat):Int)-1)=(m1:Int):=by
   rw [show ((m1+1:Nat):Int)-1=(m1:Int) from by omega];exact IntWalk.i64_in _ ⟨by omega,by omega⟩
  have hmw2:IntKind.i64.wrap (m1:Int)=(m1:Int):=IntWalk.i64_in _ ⟨by omega,by omega⟩;clear HG HL d0 d1 d2 d3 d4 z0 z1 z2 z3 z4 zf0 zf1 zf2 zf3 zf4;go_wp2_with fail;refine (SGN.out _).mono ?_;rintro e w2 ⟨rfl,b2⟩;have C2:=zid ((C1.out.keep (zaC wc (.cells #[.int .i64 g.b,.int .i64 g.n,.int .i64 (z:Int)] 75))).keep b2);obtain ⟨q0,q1,q2⟩:=Dsk.cells3 (hkeep (heap_alloc_new wc (.cells #[.int .i64 g.b,.int .i64 g.n,.int .i64 (z:Int)] 75)) b2);obtain ⟨d0,d1,d2,d3,d4⟩:=zaa C2.out.d;clear k0 k1 k2 k3 k4 k5 k6 k7 k8 k9 k10 c0 c1 c2 hmw hmw2 b2 C1 SGN;go_wp2_with fail;refine (CT.out _ _ _ _ C2.out.f).mono ?_;rintro e w3 ⟨a3,n3,c3,rfl,ks⟩;obtain ⟨y0,y1,y2,y3,y4⟩:=zaa (hkeep C2.out.d ks.w);obtain ⟨yf0,yf1,yf2,yf3,yf4⟩:=zae (hkeep C2.out.d ks.w);have LY:=zid (C2.out.lay ks);clear ks d0 d1 d2 d3 d4 q0 q1 q2 CT;unfold zac;go_upto_region 7 with (fail);obtain ⟨Z,hZ,CZ,_⟩:=LY.out;rw [hZ];have C3:=zid CZ;clear hZ CZ LY y0 y1 y2 y3 y4 yf0 yf1 yf2 yf3 yf4 C2;obtain ⟨d0,d1,d2,d3,d4⟩:=zaa C3.out.d
  by_cases hE2:E2=0
  case neg=>
   have HF:=zid (HR.out.trans (HE.out.trans (if_pos hE2)))
   have he:(E2 != 0)=true:=by simpa using hE2
   obtain ⟨z0,z1,z2,z3,z4⟩:=zaa C3.out.r;obtain ⟨zf0,zf1,zf2,zf3,zf4⟩:=zae C3.out.r;clear HR HE SY;go_wp2_with fail;obtain ⟨Y,hY,hr,hA⟩:=C3.out.ret;rw [hY];obtain ⟨x0,x1,x2,x3,x4⟩:=zaa hr;refine bodyPost_ret (v:= .tuple #[zac (.slice a3 n3 c3) D2,.int .i64 E2]) (by unfold zac;simp [results,Tryz.results25,go_sem,x0,x1,x2,x3,x4]) rfl ?_;rw [HF.out];exact hA E2
  case pos=>
  subst hE2;have HF:=zid (HR.out.trans (HE.out.trans (if_neg (fun h=>h rfl))));clear HR HE;go_wp2_with fail;refine (SY.out _ _ _ _ C3.out.f).mono ?_;rintro e w5 ⟨b5,n5,c5,rfl,ks⟩;obtain ⟨z0,z1,z2,z3,z4⟩:=zaa (hkeep C3.out.r ks.w);obtain ⟨zf0,zf1,zf2,zf3,zf4⟩:=zae (hkeep C3.out.r ks.w);have LY:=zid (C3.out.fin ks);clear ks d0 d1 d2 d3 d4 SY;unfold zac;go_wp2_with fail;obtain ⟨Y,hY,hr,hA⟩:=LY.out;rw [hY];obtain ⟨x0,x1,x2,x3,x4⟩:=zaa hr;refine bodyPost_ret (v:= .tuple #[zac (.slice b5 n5 c5) D3,.int .i64 E3]) (by unfold zac;simp [results,Tryz.results25,go_sem,x0,x1,x2,x3,x4]) rfl ?_;rw [HF.out];exact hA E3
end Ro
namespace Mfs
open Go.RowKit Qm
def zhu (l:List Int):Prop:=1<=l.length/\l.length<=64/\∀i,i<l.length->AtOk l i
def SnapOk (f z c:Int):Prop:=(f=0/\z=0/\c=0)\/(f≠0/\1<=z/\z<=65536)
instance (f z c:Int):Decidable (SnapOk f z c):=by unfold SnapOk;infer_instance
def zcZ (l:List Int):Nat->Int
 | 0=> -1
 | k+1=>l.getD k 0
theorem zjZ (l:List Int) (k:Nat) (h:∀j,j<k->AtOk l j):
 (¬AtOk l k/\(l.getD k 0<=zcZ l k\/(zcZ l k<l.getD k 0/\1099511627776<l.getD k 0)))\/(AtOk l k/\zcZ l k<l.getD k 0/\l.getD k 0<=1099511627776):=by
 have hlast: -1<=zcZ l k/\(0<k->zcZ l k=l.getD (k-1) 0)/\(k=0->zcZ l k= -1):=by
  cases k with
  | zero=>exact ⟨by show (-1:Int)<= -1;omega,by omega,fun _=>rfl⟩
  | succ k=>exact ⟨by have:=(h k (by omega)).1;show (-1:Int)<=l.getD k 0;omega,fun _=>rfl,by omega⟩
 obtain ⟨h0,h1,h2⟩:=hlast
 by_cases c1:l.getD k 0<=zcZ l k
 · refine .inl ⟨fun ⟨a0,_,a2⟩=>?_,.inl c1⟩
   by_cases hk:k=0
   · have:=h2 hk;omega
   · have:=a2 (by omega);have:=h1 (by omega);omega
 · by_cases c2:1099511627776<l.getD k 0
   · exact .inl ⟨fun ⟨_,a1,_⟩=>by omega,.inr ⟨by omega,c2⟩⟩
   · exact .inr ⟨⟨by omega,by omega,fun hk=>by have:=h1 hk;omega⟩,by omega,by omega⟩
theorem zev (fa:Option Addr) (fn fc:Nat) (l:List Int) (b:Bool) (w:World) (hv:IsL IL w (.slice fa fn fc) l) (hb:b=true↔zhu l):
 Calls Tryz.prog 126 #[.slice fa fn fc] w fun e w'=>e= .returned (.bool b)/\w=w':=by
 have HV:=zid hv;have HFL:=zid hv.len.1;have HN:=zid (show ¬zhu l->b=false from fun h=>by rw [<-Bool.not_eq_true,hb];exact h);have HY:=zid (show zhu l->b=true from hb.2);clear hv hb
 by_cases g3:(fn:Int)<1
 · have HF:=zid (HN.out fun h=>by have:=h.1;rw [<-HFL.out] at this;omega)
   go_enter Tryz.func126,Tryz.ntmps126
   go_wp2_with fail;go_ret;exact ⟨by rw [HF.out];rfl,rfl⟩
 have e3:decide ((fn:Int)<1)=false:=by simp;omega
 by_cases g4:(64:Int)<(fn:Int)
 · have HF:=zid (HN.out fun h=>by have:=h.2.1;rw [<-HFL.out] at this;omega)
   go_enter Tryz.func126,Tryz.ntmps126
   go_wp2_with fail;go_ret;exact ⟨by rw [HF.out];rfl,rfl⟩
 have e4:decide ((64:Int)<(fn:Int))=false:=by simp;omega
 go_enter Tryz.func126,Tryz.ntmps126
 go_wp2_with fail
 go_loop [3,16] (fun z i=>∃k:Nat,k<=fn/\i= .int .i64 k/\z= .int .i64 (zcZ l k)/\∀j,j<k->AtOk l j) (fun _ i=>fn-(intOf i).toNat)
 case atStart=>exact ⟨0,Nat.zero_le _,rfl,rfl,fun j hj=>absurd hj (Nat.not_lt_zero j)⟩
 case round=>
  obtain ⟨k,hk,rfl,rfl,hall⟩:=hrel;have HALL:=zid hall
  by_cases hlt:k<fn
  · obtain ⟨g,off,rfl,y0⟩:=il_at HV.out hlt
    have HLS:=zid (show zcZ l (k+1)=l.getD k 0 from rfl)
    rcases zjZ l k hall with ⟨hno,hbad⟩ | ⟨hyes,i1,i2⟩
    · have HF:=zid (HN.out fun h=>hno (h.2.2 k (by rw [<-HFL.out];exact hlt)))
      clear hno hall
      generalize l.getD k 0=f at*;generalize zcZ l k=la at*
      rcases hbad with i1 | ⟨i1,i2⟩
      · go_wp2_with fail
        go_ret
        exact ⟨by rw [HF.out];rfl,rfl⟩
      · have q1:decide (f<=la)=false:=by simpa using i1
        go_wp2_with fail
        go_ret;exact ⟨by rw [HF.out];rfl,rfl⟩
    · have GY:=zid (zjg hall hyes)
      clear hyes hall
      generalize l.getD k 0=f at*;generalize zcZ l k=la at*
      have q1:decide (f<=la)=false:=by simpa using i1
      have q2:decide ((1099511627776:Int)<f)=false:=by simpa using i2
      go_wp2_with fail
      go_round
      case rel=>exact ⟨k+1,by omega,by go_num,by rw [HLS.out],GY.out⟩
      case measure=>simp [intOf];omega
  · have HF:=zid (HY.out ⟨by rw [<-HFL.out];omega,by rw [<-HFL.out];omega,fun i hi=>HALL.out i (by rw [<-HFL.out] at hi;omega)⟩)
    clear hall
    go_wp2_with fail;go_ret;exact ⟨by rw [HF.out];rfl,rfl⟩
theorem zia (f z c:Int) (w:World):
 Calls Tryz.prog 127 #[.int .i64 f,.int .i64 z,.int .u32 c] w fun e w'=>e= .returned (.bool (decide (SnapOk f z c)))/\w=w':=by
 by_cases h0:f=0
 · subst h0
   have HV:=zid (show decide (SnapOk 0 z c)=(decide (z=0)&&decide (c=0)) by unfold SnapOk;simp)
   by_cases h1:z=0
   · subst h1
     have HW:=zid (show (decide (c=0))=(c==0) from by cases h:decide (c=0)<;>simp_all)
     go_enter Tryz.func127,Tryz.ntmps127
     go_wp2_with fail;go_ret;refine ⟨?_,rfl⟩;rw [HV.out,HW.out]
     rfl
   · have q1:(z==0)=false:=by simpa using h1
     have HW:=zid (show decide (SnapOk 0 z c)=false by rw [HV.out];simp [h1])
     clear h1
     go_enter Tryz.func127,Tryz.ntmps127
     go_wp2_with fail;go_ret;exact ⟨by rw [HW.out];rfl,rfl⟩
 · have q0:(f==0)=false:=by simpa using h0
   have HV:=zid (show decide (SnapOk f z c)=(decide (1<=z)&&decide (z<=65536)) by unfold SnapOk;simp [h0])
   clear h0
   by_cases h1:1<=z
   · have HW:=zid (show decide (SnapOk f z c)=decide (z<=65536) by rw [HV.out];simp [h1])
     go_enter Tryz.func127,Tryz.ntmps127
     go_wp2_with fail;go_ret;exact ⟨by rw [HW.out];rfl,rfl⟩
   · have q1:decide (1<=z)=false:=by simpa using h1
     have HW:=zid (show decide (SnapOk f z c)=false by rw [HV.out];simp [h1])
     clear h1
     go_enter Tryz.func127,Tryz.ntmps127
     go_wp2_with fail;go_ret;exact ⟨by rw [HW.out];rfl,rfl⟩
theorem ok_parts (m:Mn):Ok m↔1<=m.v/\m.v<=1099511627776/\zhu m.l/\SnapOk (m.l.getD 0 0) m.z m.c/\0<=m.c/\m.c<4294967296:=
 ⟨fun h=>⟨h.v0,h.v1,⟨h.n0,h.n1,h.at_⟩,h.z,h.c⟩,fun ⟨a,b,⟨c,d,e⟩,f,g⟩=>⟨a,b,c,d,e,f,g⟩⟩
theorem zcB (fa:Option Addr) (fn fc:Nat) (m:Mn) (b:Bool) (w:World) (hv:IsL IL w (.slice fa fn fc) m.l) (hB:MnB m) (hb:b=true↔Ok m):
 Calls Tryz.prog 91 #[mnVal fa fn fc m] w fun e w'=>e= .returned (.bool b)/\Below w.heap.size w w':=by
 obtain ⟨_,_,c0,c1⟩:=hB;have HFL:=zid hv.len.1;have HN:=zid (show ¬Ok m->b=false from fun h=>by rw [<-Bool.not_eq_true,hb];exact h);have HY:=zid (show Ok m->b=true from hb.2);clear hb;have HA:=zid ((Below.refl w.heap.size w).alloc (Nat.le_refl _) (.cells #[.int .i64 m.v,.slice fa fn fc,.int .i64 m.z,.int .u32 m.c] 65));obtain ⟨x0,x1,x2,x3⟩:=cells4 (heap_alloc_new w (.cells #[.int .i64 m.v,.slice fa fn fc,.int .i64 m.z,.int .u32 m.c] 65));have HVA:=zid (hv.keep HA.out);have HOP:=zid (ok_parts m);obtain ⟨mv,ml,mz,mc⟩:=m;unfold mnVal;dsimp only at*
 by_cases g1:1<=mv
 case neg=>
  have HF:=zid (HN.out fun h=>g1 h.v0)
  have e1:decide (1<=mv)=false:=by simpa using g1
  clear hv g1
  go_enter Tryz.func91,Tryz.ntmps91
  go_wp2_with fail
  go_quiet (fail)
  go_wp2_with fail;go_ret;exact ⟨by rw [HF.out];rfl,HA.out.trans ((zad _).mono HA.out.size)⟩
 by_cases g2:mv<=1099511627776
 case neg=>
  have HF:=zid (HN.out fun h=>g2 h.v1)
  have e2:decide (mv<=1099511627776)=false:=by simpa using g2
  clear hv g2
  go_enter Tryz.func91,Tryz.ntmps91
  go_wp2_with fail
  go_quiet (fail)
  go_wp2_with fail;go_ret;exact ⟨by rw [HF.out];rfl,HA.out.trans ((zad _).mono HA.out.size)⟩
 by_cases g3:zhu ml
 case neg=>
  have HF:=zid (HN.out fun h=>g3 (HOP.out.1 h).2.2.1);have C:=zid fun (W:World) (hW:IsL IL W (.slice fa fn fc) ml)=>zev fa fn fc ml false W hW ⟨(fun h=>by cases h),fun h=>absurd h g3⟩;clear hv g3
  go_enter Tryz.func91,Tryz.ntmps91
  go_wp2_with fail
  go_quiet ((go_at_call 126;exact Calls.quiet_of_same ((C.out _ (HVA.out.keep (zad _))).mono fun _ _ ⟨he,hw⟩=>⟨he,hw.symm⟩)))
  go_wp2_with fail;go_ret;exact ⟨by rw [HF.out];rfl,HA.out.trans ((zad _).mono HA.out.size)⟩
 have C:=zid fun (W:World) (hW:IsL IL W (.slice fa fn fc) ml)=>zev fa fn fc ml true W hW ⟨fun _=>g3,fun _=>rfl⟩;obtain ⟨g,off,rfl,y0⟩:=il_at HVA.out (show 0<fn by rw [HFL.out];exact g3.1);rw [Nat.add_zero] at y0;have D:=zid fun W:World=>zia (ml.getD 0 0) mz mc W
 have HD:=zid (show decide (SnapOk (ml.getD 0 0) mz mc)=b by
  by_cases h:SnapOk (ml.getD 0 0) mz mc
  · rw [HY.out (HOP.out.2 ⟨g1,g2,g3,h,c0,c1⟩)];simpa using h
  · rw [HN.out fun hk=>h (HOP.out.1 hk).2.2.2.1];simpa using h)
 rw [HD.out] at D
 have hfn:0<fn:=by rw [HFL.out];exact g3.1
 generalize ml.getD 0 0=f at*;clear hv g3 HD
 go_enter Tryz.func91,Tryz.ntmps91
 go_wp2_with fail
 go_quiet (first | (go_at_call 126;exact Calls.quiet_of_same ((C.out _ (HVA.out.keep (zad _))).mono fun _ _ ⟨he,hw⟩=>⟨he,hw.symm⟩)) | (go_at_call 127;exact Calls.quiet_of_same ((D.out _).mono fun _ _ ⟨he,hw⟩=>⟨he,hw.symm⟩)))
 go_wp2_with fail;go_ret;exact ⟨rfl,HA.out.trans ((zad _).mono HA.out.size)⟩
end Mfs
end Go.Proofs.YtooipogbmfkeeaaGreat

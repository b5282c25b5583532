/-
  Parts of what the laws of this seat stand on:StoCrt,RoOpn.
-/
import Derived.Test.YtooipogbmfkeeaaGreatQr1
import Derived.Test.YtooipogbmfkeeaaGreatQr21
import Derived.Test.YtooipogbmfkeeaaGreatQr41
import Derived.Test.YtooipogbmfkeeaaGreatQr42
set_option maxRecDepth 100000
set_option maxHeartbeats 6400000
namespace Go.Proofs.YtooipogbmfkeeaaGreat
namespace Sto
open Go.RowKit So Dsk Rts
theorem zhy (ma:Option Addr) (mn mc:Nat) (m:Qm.Mn) (w:World):Calls Tryz.prog 87 #[Mfs.mnVal ma mn mc m] w fun e w'=>e= .returned (.func (.func 117) #[] #[.pointer (some ⟨w.heap.size,0,none⟩)])/\w'=w.alloc (.cells #[.int .i64 m.v,.slice ma mn mc,.int .i64 m.z,.int .u32 m.c] 65):=by
 have hmf:=Dsk.made_func;unfold Mfs.mnVal
 go_enter Tryz.func87,Tryz.ntmps87
 go_wp2_with fail;go_ret;exact ⟨rfl,rfl⟩
theorem swapped1 (fa:Option Addr) (fn fc:Nat) (D:Dp.Dk) (ma:Option Addr) (mn mc:Nat) (m:Qm.Mn) (b:Nat) (R:Dp.Dk×Int) (w:World) (hv:IsL FL w (.slice fa fn fc) D.f) (hb:w.heap[b]?=some (.cells #[.int .i64 m.v,.slice ma mn mc,.int .i64 m.z,.int .u32 m.c] 65 (0,0)))
 (C:∀W,Below w.heap.size w W->Calls Tryz.prog 118 #[zac (.slice fa fn fc) D,Mfs.mnVal ma mn mc m] W (za2 W (.slice fa fn fc) R)):
 Calls Tryz.prog 117 #[zac (.slice fa fn fc) D,.pointer (some ⟨b,0,none⟩)] w (za2 w (.slice fa fn fc) R):=by
 obtain ⟨g0,g1,gb,gs⟩:=zaR w #[.slice fa fn fc,.int .i64 D.c,.bool D.a,.int .i64 D.l,.bool D.x] #[.slice none 0 0,.int .i64 0,.bool false,.int .i64 0,.bool false] 24 24;have HG:=zid g1;have HB:=zid gb;have HS:=zid (Array.getElem?_eq_some_iff.1 g1).1;have SP:=zid (show Sep (.slice fa fn fc) (w.heap.size+1) from IsL.sep_new hv (by omega));obtain ⟨n0,n1,n2,n3⟩:=zcN (hkeep hb gb);have HC:=zid C;unfold zac Mfs.mnVal at HC;unfold zac;clear hv hb C g0 g1 gb gs
 go_enter Tryz.func117,Tryz.ntmps117
 go_wp2_with fail;generalize World.alloc (World.alloc w _) _=w0 at HG HB HS n0 n1 n2 n3 ⊢;refine (HC.out _ HB.out).mono ?_;rintro e w1 ⟨ga,gn,gc,rfl,kk⟩;obtain ⟨q0,q1,q2,q3,q4⟩:=zaa (hkeep HG.out kk.w);obtain ⟨qf0,qf1,qf2,qf3,qf4⟩:=zae (hkeep HG.out kk.w);have LY:=zid (zdP HB.out kk (t:=w.heap.size+1) (by omega) HS.out SP.out (.slice ga gn gc) (.int .i64 R.1.c) (.bool R.1.a) (.int .i64 R.1.l) (.bool R.1.x));clear kk;unfold zac;go_wp2_with fail;refine bodyPost_ret (v:= .tuple #[.agg #[.slice ga gn gc,.int .i64 R.1.c,.bool R.1.a,.int .i64 R.1.l,.bool R.1.x],.int .i64 R.2]) (by simp [results,Tryz.results117,go_sem,q0,q1,q2,q3,q4]) rfl ?_;exact ⟨_,_,_,rfl,LY.out⟩
theorem zhE {fa:Option Addr} {fn fc:Nat} {D:Dp.Dk} {k:Nat} {W:World} (h:Bd D k) (hk:k<=100000) {ma:Option Addr} {mn mc:Nat} {m:Qm.Mn} (hm:IsL Mfs.IL W (.slice ma mn mc) m.l) (hM:Mfs.MnB m) (hv:IsL FL W (.slice fa fn fc) D.f):
 Stp 117 #[.pointer (some ⟨W.heap.size,0,none⟩)] (.slice fa fn fc) D (swap D m) (W.alloc (.cells #[.int .i64 m.v,.slice ma mn mc,.int .i64 m.z,.int .u32 m.c] 65)):=
 ze3 (enters Tryz.func117 (by kernel_rfl) (by rfl)) fun W' b=>swapped1 fa fn fc D ma mn mc m W.heap.size _ W' ((hv.keep (zaC W _)).keep b) (hkeep (al_at W _ _) b) fun W'' b'=>zjr fa fn fc D ma mn mc m W'' k (((hv.keep (zaC W _)).keep b).keep b') (((hm.keep (zaC W _)).keep b).keep b') h hk hM
theorem seg_new (W:World) (x y z:Int) (hb:(-9223372036854775808<=x/\x<=9223372036854775807)/\(-9223372036854775808<=y/\y<=9223372036854775807)/\(-9223372036854775808<=z/\z<=9223372036854775807)):
 IsL Rts.SL (W.alloc (.cells #[.int .i64 x,.int .i64 y,.int .i64 z] 75)) (.slice (some ⟨W.heap.size,0,none⟩) 1 1) [⟨x,y,z⟩]:=by
 refine ⟨_,1,rfl,⟨(by decide:1<=maxLen),Nat.le_refl 1⟩,fun y' hy=>?_,.inr ⟨W.heap.size,0,rfl,fun j u hj=>?_⟩⟩
 · rw [List.mem_singleton] at hy
   subst hy
   exact hb
 · have:=zas W W.heap.size [.int .i64 x,.int .i64 y,.int .i64 z] 75 rfl j u hj
   rwa [zak] at this
def z11:Obj:= .cells #[.slice none 0 0,.int .i64 0,.bool false,.int .i64 0,.bool false,.int .i64 0,.slice none 0 0,.int .i64 0,.int .i64 0,.int .i64 0,.int .u32 0] 30
theorem zhj (fa:Option Addr) (fn fc:Nat) (D:Dp.Dk) (w:World) (k:Nat) (hv:IsL FL w (.slice fa fn fc) D.f) (hS:Bd D k) (hk:k<=99000):
 Calls Tryz.prog 49 #[zac (.slice fa fn fc) D] w (zdS w (.slice fa fn fc) (.slice none 0 0) (zal D)):=by
 have M0:=((Ms.start (gv:= .slice none 0 0) (lg:=[]) hv (IsL.nil w none 0)).alloc #[.slice fa fn fc,.int .i64 D.c,.bool D.a,.int .i64 D.l,.bool D.x] 24).alloc #[.slice none 0 0,.int .i64 0,.bool false,.int .i64 0,.bool false,.int .i64 0,.slice none 0 0,.int .i64 0,.int .i64 0,.int .i64 0,.int .u32 0] 30;simp only [World.size_alloc] at M0;have HM0:=zid M0;have HCR:=create_p D;unfold zil at HCR;dsimp only at HCR;have c1:=zma (X:=(D,0)) hS (zaL hS (segN 0));obtain ⟨X1,hX1⟩:∃X,tk (D,0) (Dp.create D (segN 0))=X:=⟨_,rfl⟩;rw [hX1] at HCR c1;obtain ⟨X2,hX2⟩:∃X,tk X1 (swap X1.1 (man (zdN X1.1)))=X:=⟨_,rfl⟩;rw [hX2] at HCR;have HC:=zid (And.intro c1 hS);have HX1:=zid hX1;have HX2:=zid hX2;replace HCR:=zid HCR;have SG:=zid fun W:World=>zfD 0 W (by decide);have MN:=zid fun (fv gv:Value) (W:World) (h:IsL Rts.SL W gv [⟨0,0,0⟩])=>zlk fv gv (zdN X1.1) W h (stb1 (zax c1 (by omega)));unfold zag zdN at MN;dsimp only at MN;have hM:Mfs.MnB (man (zdN X1.1)):=⟨⟨(by decide:(-9223372036854775808:Int)<=1),(by decide:(1:Int)<=9223372036854775807)⟩,⟨(by decide:(-9223372036854775808:Int)<=0),(by decide:(0:Int)<=9223372036854775807)⟩,(by decide:(0:Int)<=0),(by decide:(0:Int)<4294967296)⟩;unfold zdN at HX2 hM;obtain ⟨m,hm⟩:∃m,man ⟨X1.1,1,[⟨0,0,0⟩],0,0,0,0⟩=m:=⟨_,rfl⟩;rw [hm] at HX2 MN hM;have HM:=zid hM;clear hv hS c1 hX1 hX2 M0 hm hM;unfold zac
 go_enter Tryz.func49,Tryz.ntmps49
 go_upto_region 1 with (fail);generalize World.alloc (World.alloc w _) _=w0 at HM0 ⊢;obtain ⟨p0,p1,p2,p3,p4⟩:=zaa (HM0.out.at_ (mcm mcs));have hlt:=HM0.out.lt (t:=w.heap.size+1) mcs;go_wp2_with fail;clear p0 p1 p2 p3 p4
 have M1:=((HM0.out.fresh (zaC w0 (.cells #[.int .i64 0,.int .i64 0,.int .i64 0] 75)) (seg_new w0 0 0 0 ⟨⟨by decide,by decide⟩,⟨by decide,by decide⟩,⟨by decide,by decide⟩⟩) (fun j hj a k c e _=>by
  injection e with e _ _
  injection e with e
  rw [<-e];show w0.heap.size≠j
  omega)).alloc #[.slice fa fn fc,.int .i64 D.c,.bool D.a,.int .i64 D.l,.bool D.x,.int .i64 1,.slice (some ⟨w0.heap.size,0,none⟩) 1 1,.int .i64 0,.int .i64 0,.int .i64 0,.int .u32 0] 30).alloc #[.int .i64 0] 31
 simp only [World.size_alloc] at M1;refine (ze2 _ _ _).mono ?_;rintro en w2 ⟨rfl,rfl⟩
 have T2:=Tk.new (A:=zlK (.slice (some ⟨w0.heap.size,0,none⟩) 1 1) (zdN D)) (T:=30) (t:=w0.heap.size+1) (e:=w0.heap.size+1+1) (v:= .slice fa fn fc) (X:=(D,0)) (xs:=[(w.heap.size+1,z11)]) (gs:=[(.slice (some ⟨w0.heap.size,0,none⟩) 1 1,[⟨0,0,0⟩]),(.slice none 0 0,[])]) (M1.sub (fun p hp=>by
  simp only [List.mem_cons,List.not_mem_nil,or_false] at hp ⊢
  rcases hp with rfl | rfl | rfl
  · exact .inr (.inl rfl)
  · exact .inl rfl
  · exact .inr (.inr (.inl rfl))) (fun _ hp=>hp) (fun _ hp=>hp)) (by omega) (fun p hp=>by
  simp only [List.mem_cons,List.not_mem_nil,or_false] at hp;subst hp
  exact ⟨by show w.heap.size+1≠w0.heap.size+1;omega,by show w.heap.size+1≠w0.heap.size+1+1;omega⟩)
 simp only [World.size_alloc] at T2 ⊢;obtain ⟨t,ht⟩:∃t,w0.heap.size+1=t:=⟨_,rfl⟩;obtain ⟨gv,hgv⟩:∃gv:Addr,(⟨w0.heap.size,0,none⟩:Addr)=gv:=⟨_,rfl⟩;rw [ht,hgv] at T2 ⊢;obtain ⟨w2,hw2⟩:∃w2,World.alloc (World.alloc (World.alloc (World.alloc (World.alloc w0 (.cells #[.int .i64 0,.int .i64 0,.int .i64 0] 75)) (.cells #[.slice fa fn fc,.int .i64 D.c,.bool D.a,.int .i64 D.l,.bool D.x,.int .i64 1,.slice (some gv) 1 1,.int .i64 0,.int .i64 0,.int .i64 0,.int .u32 0] 30)) (.cells #[.int .i64 0] 31)) (.cells #[.pointer (some ⟨t,0,none⟩)] 127)) (.cells #[.pointer (some ⟨t+1,0,none⟩)] 128)=w2:=⟨_,rfl⟩;rw [hw2] at T2 ⊢;have HT2:=zid T2;clear T2 M1 hlt ht hgv hw2 HM0;go_wp2_with fail;refine (SG.out _).mono ?_;rintro en w3 ⟨rfl,b3⟩;have HT3:=zid (HT2.out.keep b3);clear b3 HT2 SG;go_wp2_with fail;refine (zeJ (segN 0) _).mono ?_;rintro en w4 ⟨rfl,rfl⟩;go_wp2_with fail;refine (Tk.take (zhd _ _) (HT3.out.al _) (zd8 HC.out.2 (by omega) (segN 0) (ziK ⟨by decide,by decide⟩) HT3.out.fl)).mono ?_;rintro en w5 ⟨rfl,a5,n5,c5,T5⟩;rw [show (tk (D,0) (Dp.create (D,(0:Int)).1 (segN 0)))=X1 from HX1.out] at T5;have HT5:=zid T5;obtain ⟨⟨p0,p1,p2,p3,p4⟩,p5,p6,p7,p8,p9,p10⟩:=zab T5.hd;replace p5:w5.cell? ⟨t,5,none⟩=some (.int .i64 1):=p5;replace p7:w5.cell? ⟨t,7,none⟩=some (.int .i64 0):=p7;replace p8:w5.cell? ⟨t,8,none⟩=some (.int .i64 0):=p8;replace p9:w5.cell? ⟨t,9,none⟩=some (.int .i64 0):=p9;replace p10:w5.cell? ⟨t,10,none⟩=some (.int .u32 0):=p10;clear T5 HT3;go_wp2_with fail;refine (MN.out _ _ _ (HT5.out.m.sl mcs)).mono ?_;rintro en w6 ⟨am,an,ac,rfl,hl,b6⟩;have HL:=zid hl;have HT6:=zid (HT5.out.keep b6);clear hl b6 HT5 MN p0 p1 p2 p3 p4 p5 p6 p7 p8 p9 p10;unfold Mfs.mnVal;go_wp2_with fail;refine (zhy am an ac m _).mono ?_;rintro en w7 ⟨rfl,rfl⟩;go_wp2_with fail;refine (Tk.take (zhd _ _) (HT6.out.al _) (zhE HC.out.1 (by omega) HL.out HM.out HT6.out.fl)).mono ?_;rintro en w8 ⟨rfl,a8,n8,c8,T8⟩;rw [HX2.out] at T8;obtain ⟨XD,XE⟩:=X2;have HT8:=zid T8;obtain ⟨⟨p0,p1,p2,p3,p4⟩,p5,p6,p7,p8,p9,p10⟩:=zab T8.hd;replace p5:w8.cell? ⟨t,5,none⟩=some (.int .i64 1):=p5;replace p7:w8.cell? ⟨t,7,none⟩=some (.int .i64 0):=p7;replace p8:w8.cell? ⟨t,8,none⟩=some (.int .i64 0):=p8;replace p9:w8.cell? ⟨t,9,none⟩=some (.int .i64 0):=p9;replace p10:w8.cell? ⟨t,10,none⟩=some (.int .u32 0):=p10;obtain ⟨ec,_⟩:=za4 T8.he;have hz:=T8.hx (i:=w.heap.size+1) (o:=z11) mcs;have hmz:(w.heap.size+1,z11)∈(t,Obj.cells (zlK (.slice (some gv) 1 1) (zdN D) (.slice a8 n8 c8) XD) 30)::(t+1,.cells #[.int .i64 XE] 31)::(t+1+1,.cells #[.pointer (some ⟨t,0,none⟩)] 127)::(t+1+1+1,.cells #[.pointer (some ⟨t+1,0,none⟩)] 128)::[(w.heap.size+1,z11)]:=mcm (mcm (mcm (mcm mcs)));obtain ⟨⟨q0,q1,q2,q3,q4⟩,q5,q6,q7,q8,q9,q10⟩:=zab hz;have qf:=zah hz;have hne:=T8.n3 (w.heap.size+1,z11) mcs;have ne1:¬(w.heap.size+1=t):=hne.1;have ne2:¬(t=w.heap.size+1):=fun h=>hne.1 h.symm;have ne3:¬(w.heap.size+1=t+1):=hne.2;have ne4:¬(t+1=w.heap.size+1):=fun h=>hne.2 h.symm
 have LY:=zid fun (W:World) (b:Below w8.heap.size w8 W) (y0 y1 y2 y3 y4 y5 y6 y7 y8 y9 y10:Value)=>(HT8.out.keep b).m.lay11 (cs':=[(w.heap.size+1,.cells #[y0,y1,y2,y3,y4,y5,y6,y7,y8,y9,y10] 30)]) (t:=w.heap.size+1) hmz y0 y1 y2 y3 y4 y5 y6 y7 y8 y9 y10 (fun p hp=>by
  simp only [List.mem_cons,List.not_mem_nil,or_false] at hp;subst hp
  exact .inl rfl)
 dsimp only at p0 p1 p2 p3 p4 ec;clear T8 HT6 hz hne HL hmz
 by_cases hE:XE=0
 · subst hE
   have HF:=zid (show zal D=(zdN XD,0) by rw [HCR.out,if_neg (fun h=>h rfl)])
   clear HCR HX2;go_wp2_with fail;obtain ⟨Z,hZ,M9⟩:=LY.out w8 (Below.refl _ _) (.slice a8 n8 c8) (.int .i64 XD.c) (.bool XD.a) (.int .i64 XD.l) (.bool XD.x) (.int .i64 1) (.slice (some gv) 1 1) (.int .i64 0) (.int .i64 0) (.int .i64 0) (.int .u32 0);rw [hZ];obtain ⟨⟨z0,z1,z2,z3,z4⟩,z5,z6,z7,z8,z9,z10⟩:=zab (M9.at_ mcs);refine bodyPost_ret (v:= .tuple #[zag (.slice a8 n8 c8) (.slice (some gv) 1 1) (zdN XD),.int .i64 0]) (by unfold zag zdN;simp [results,Tryz.results49,go_sem,z0,z1,z2,z3,z4,z5,z6,z7,z8,z9,z10]) rfl ?_;rw [HF.out];exact ⟨_,_,_,_,_,_,rfl,M9.sts (T:=zdN XD) mcs mcs⟩
 · have HF:=zid (show zal D=(⟨XD,0,[],0,0,0,0⟩,XE) by rw [HCR.out,if_pos hE])
   have hE':=ne_b hE
   clear HCR HX2 hE;go_upto_region 7 with (fail)
   go_region
   all_goals
    go_wp2_with fail
    obtain ⟨Z,hZ,M8⟩:=LY.out w8 (Below.refl _ _) (.slice a8 n8 c8) (.int .i64 XD.c) (.bool XD.a) (.int .i64 XD.l) (.bool XD.x) (.int .i64 0) (.slice none 0 0) (.int .i64 0) (.int .i64 0) (.int .i64 0) (.int .u32 0);rw [hZ];have M9:=M8.keep (W':=Z.drew) (Below.refl _ _).drew;obtain ⟨⟨z0,z1,z2,z3,z4⟩,z5,z6,z7,z8,z9,z10⟩:=zab (M9.at_ mcs);refine bodyPost_ret (v:= .tuple #[zag (.slice a8 n8 c8) (.slice none 0 0) ⟨XD,0,[],0,0,0,0⟩,.int .i64 XE]) (by unfold zag;simp [results,Tryz.results49,go_sem,z0,z1,z2,z3,z4,z5,z6,z7,z8,z9,z10]) rfl ?_;rw [HF.out];exact ⟨_,_,_,_,_,_,rfl,M9.sts (T:=⟨XD,0,[],0,0,0,0⟩) mcs (mcm mcs)⟩
end Sto
namespace Ro
open Go.RowKit So Dsk Rts Sto
section
variable {w W W':World} {fv0 v:Value} {D:Dp.Dk} {t t1:Nat} {xs:List (Nat×Obj)}
theorem Cw.bare {a:Option Addr} {n c:Nat} (h:Cw w fv0 t (.slice a n c) D t1 zS xs W):
 ∃Z,((((((((((W.setCell ⟨t1,0,none⟩ (.slice a n c)).setCell ⟨t1,1,none⟩ (.int .i64 D.c)).setCell ⟨t1,2,none⟩ (.bool D.a)).setCell ⟨t1,3,none⟩ (.int .i64 D.l)).setCell ⟨t1,4,none⟩ (.bool D.x)).setCell ⟨t1,5,none⟩ (.int .i64 0)).setCell ⟨t1,6,none⟩ (.slice none 0 0)).setCell ⟨t1,7,none⟩ (.int .i64 0)).setCell ⟨t1,8,none⟩ (.int .i64 0)).setCell ⟨t1,9,none⟩ (.int .i64 0)).setCell ⟨t1,10,none⟩ (.int .u32 0)=Z/\Z.heap[t1]?=some (sC (.slice a n c) (.slice none 0 0) (Lg.bare D))/\∀e:Int,zdS w fv0 (.slice none 0 0) (Lg.bare D,e) (.returned (.tuple #[zag (.slice a n c) (.slice none 0 0) (Lg.bare D),.int .i64 e])) Z:=by
 have M:=h.2.2.fresh (Below.refl _ _) (IsL.nil W none 0) (fun _ _=>Sep.nil _ _ _);obtain ⟨Z,h1,h2⟩:=M.lay11 (t:=t1) (cs':=[(t1,sC (.slice a n c) (.slice none 0 0) (Lg.bare D))]) (mcm mcs) (.slice a n c) (.int .i64 D.c) (.bool D.a) (.int .i64 D.l) (.bool D.x) (.int .i64 0) (.slice none 0 0) (.int .i64 0) (.int .i64 0) (.int .i64 0) (.int .u32 0) (fun p hp=> .inl (List.mem_singleton.1 hp));exact ⟨Z,h1,h2.at_ mcs,fun e=>⟨_,_,_,_,_,_,rfl,h2.sts (T:=Lg.bare D) mcs mcs⟩⟩
theorem Cw.put {T:St} {a a':Option Addr} {n c n' c':Nat} (h:Cw w fv0 t v D t1 zS xs W) (k:StS W v (.slice none 0 0) T (.slice a n c) (.slice a' n' c') W'):
 ∃Z,((((((((((W'.setCell ⟨t1,0,none⟩ (.slice a n c)).setCell ⟨t1,1,none⟩ (.int .i64 T.d.c)).setCell ⟨t1,2,none⟩ (.bool T.d.a)).setCell ⟨t1,3,none⟩ (.int .i64 T.d.l)).setCell ⟨t1,4,none⟩ (.bool T.d.x)).setCell ⟨t1,5,none⟩ (.int .i64 T.v)).setCell ⟨t1,6,none⟩ (.slice a' n' c')).setCell ⟨t1,7,none⟩ (.int .i64 T.x)).setCell ⟨t1,8,none⟩ (.int .i64 T.s)).setCell ⟨t1,9,none⟩ (.int .i64 T.z)).setCell ⟨t1,10,none⟩ (.int .u32 T.c)=Z/\Z.heap[t1]?=some (sC (.slice a n c) (.slice a' n' c') T)/\∀e:Int,zdS w fv0 (.slice none 0 0) (T,e) (.returned (.tuple #[zag (.slice a n c) (.slice a' n' c') T,.int .i64 e])) Z:=by
 have M:=(h.2.2.fresh (Below.refl _ _) (IsL.nil W none 0) (fun _ _=>Sep.nil _ _ _)).call2 mcs mcs k;obtain ⟨Z,h1,h2⟩:=M.lay11 (t:=t1) (cs':=[(t1,sC (.slice a n c) (.slice a' n' c') T)]) (mcm mcs) (.slice a n c) (.int .i64 T.d.c) (.bool T.d.a) (.int .i64 T.d.l) (.bool T.d.x) (.int .i64 T.v) (.slice a' n' c') (.int .i64 T.x) (.int .i64 T.s) (.int .i64 T.z) (.int .u32 T.c) (fun p hp=> .inl (List.mem_singleton.1 hp));exact ⟨Z,h1,h2.at_ mcs,fun e=>⟨_,_,_,_,_,_,rfl,h2.sts (T:=T) mcs mcs⟩⟩
end
theorem ziq (fa:Option Addr) (fn fc:Nat) (D:Dp.Dk) (w:World) (k:Nat) (hv:IsL FL w (.slice fa fn fc) D.f) (hS:Bd D k) (hk:k<=10000):
 Calls Tryz.prog 23 #[zac (.slice fa fn fc) D] w (zdS w (.slice fa fn fc) (.slice none 0 0) (Lg.freshT D)):=by
 have C0:=zid (Cw.start (w:=w) hv #[.slice none 0 0,.int .i64 0,.bool false,.int .i64 0,.bool false,.int .i64 0,.slice none 0 0,.int .i64 0,.int .i64 0,.int .i64 0,.int .u32 0] 30);have CL:=fun (W:World) (h:IsL FL W (.slice fa fn fc) D.f)=>zdK fa fn fc D (.map none) [] W k h hS hk (.inl ⟨rfl,rfl⟩);have HB:=Lg.bd_sweep hS []
 have HR:=show Lg.freshT D=if (Lg.sweep D []).2≠0 then (Lg.bare (Lg.sweep D []).1,(Lg.sweep D []).2) else zal (Lg.sweep D []).1 from rfl
 obtain ⟨⟨D1,E1⟩,h1⟩:∃R,Lg.sweep D []=R:=⟨_,rfl⟩;rw [h1] at CL HB HR;dsimp only at HB HR;have CR:=fun (a:Option Addr) (n c:Nat) (W:World) (h:IsL FL W (.slice a n c) D1.f)=>zhj a n c D1 W (k+k) h HB (by omega);obtain ⟨⟨T,E⟩,h2⟩:∃R,zal D1=R:=⟨_,rfl⟩;rw [h2] at CR HR;unfold zac at CL CR ⊢;replace CL:=zid CL;replace CR:=zid CR;replace HR:=zid HR;clear hv hS HB h1 h2
 go_enter Tryz.func23,Tryz.ntmps23
 go_upto_region 1 with (fail);obtain ⟨w0,hw0⟩:∃w0,(w.alloc (.cells #[.slice fa fn fc,.int .i64 D.c,.bool D.a,.int .i64 D.l,.bool D.x] 24)).alloc (.cells #[.slice none 0 0,.int .i64 0,.bool false,.int .i64 0,.bool false,.int .i64 0,.slice none 0 0,.int .i64 0,.int .i64 0,.int .i64 0,.int .u32 0] 30)=w0:=⟨_,rfl⟩;unfold dC at C0;rw [hw0] at C0 ⊢;have C0:=zid (show Cw w (.slice fa fn fc) w.heap.size (.slice fa fn fc) D (w.heap.size+1) zS [] w0 from C0.out);clear hw0;obtain ⟨d0,d1,d2,d3,d4⟩:=zaa C0.out.d;go_wp2_with fail;refine (CL.out _ C0.out.f).mono ?_;rintro e w1 ⟨a,n,c,rfl,ks⟩;obtain ⟨y0,y1,y2,y3,y4⟩:=zaa (hkeep C0.out.d ks.w);obtain ⟨yf0,yf1,yf2,yf3,yf4⟩:=zae (hkeep C0.out.d ks.w);have LY:=zid (C0.out.lay ks);clear ks d0 d1 d2 d3 d4 CL;unfold zac;go_upto_region 2 with (fail);obtain ⟨Z,hZ,CZ,_⟩:=LY.out;rw [hZ];have C1:=zid CZ;clear hZ CZ LY y0 y1 y2 y3 y4 yf0 yf1 yf2 yf3 yf4 C0;obtain ⟨d0,d1,d2,d3,d4⟩:=zaa C1.out.d
 by_cases hE:E1=0
 case neg=>
  have HF:=zid (HR.out.trans (if_pos hE))
  have he:(E1 != 0)=true:=by simpa using hE
  obtain ⟨⟨z0,z1,z2,z3,z4⟩,z5,z6,z7,z8,z9,z10⟩:=zab C1.out.r;have zf:=zah C1.out.r;clear HR CR;go_wp2_with fail;obtain ⟨Y,hY,hr,hA⟩:=C1.out.bare;rw [hY];obtain ⟨⟨x0,x1,x2,x3,x4⟩,x5,x6,x7,x8,x9,x10⟩:=zab hr;refine bodyPost_ret (v:= .tuple #[zag (.slice a n c) (.slice none 0 0) (Lg.bare D1),.int .i64 E1]) (by unfold zag Lg.bare;simp [results,Tryz.results23,go_sem,x0,x1,x2,x3,x4,x5,x6,x7,x8,x9,x10];simp [Lg.bare]) rfl ?_;rw [HF.out];exact hA E1
 case pos=>
 subst hE;have HF:=zid (HR.out.trans (if_neg (fun h=>h rfl)));clear HR;go_wp2_with fail;refine (CR.out _ _ _ _ C1.out.f).mono ?_;rintro e w5 ⟨a5,n5,c5,a6,n6,c6,rfl,ks⟩;obtain ⟨⟨z0,z1,z2,z3,z4⟩,z5,z6,z7,z8,z9,z10⟩:=zab (hkeep C1.out.r ks.w);have zf:=zah (hkeep C1.out.r ks.w);have LY:=zid (C1.out.put ks);clear ks d0 d1 d2 d3 d4 CR;unfold zag;go_wp2_with fail;obtain ⟨Y,hY,hr,hA⟩:=LY.out;rw [hY];obtain ⟨⟨x0,x1,x2,x3,x4⟩,x5,x6,x7,x8,x9,x10⟩:=zab hr;refine bodyPost_ret (v:= .tuple #[zag (.slice a5 n5 c5) (.slice a6 n6 c6) T,.int .i64 E]) (by unfold zag;simp [results,Tryz.results23,go_sem,x0,x1,x2,x3,x4,x5,x6,x7,x8,x9,x10]) rfl ?_;rw [HF.out];exact hA E
theorem ze1 {D:Dp.Dk} {k:Nat} (hS:Bd D k) (hk:k<=100000) {s:List UInt8} {S:St} (h:Lg.toldT D s=some S):S.d=D/\S.g≠[]/\S.g.length<=64/\∀g∈S.g,(0<=g.b/\g.b<=1099511627776)/\0<=g.z/\g.z<=1000000000000:=by
 by_cases h1:(Qm.getM s).2≠0\/ ¬Lg.SnapOk D (Qm.getM s).1
 · rw [Lg.told_no h1] at h;cases h
 have h2:(Qm.getM s).2=0:=Classical.not_not.1 fun e=>h1 (.inl e);rw [Lg.told_go h2 (Classical.not_not.1 fun e=>h1 (.inr e))] at h;have hok:=Lg.getM_ok h2
 rcases hs:Lg.segA D (Qm.getM s).1.l with _ | gs
 · rw [hs] at h;cases h
 rw [hs,Option.map_some] at h;obtain rfl:=zea hs;have e:=Option.some.inj h;rw [<-e];refine ⟨rfl,fun e=>?_,by show (List.map _ _).length<=_;rw [List.length_map];exact hok.n1,fun g hg=>?_⟩
 · have:=hok.n0
   rw [List.map_eq_nil_iff.1 e] at this
   exact absurd this (by decide)
 · obtain ⟨b,hb,rfl⟩:=List.mem_map.1 hg
   obtain ⟨i,hi,rfl⟩:=List.getElem_of_mem hb
   have:=hok.at_ i hi;unfold Qm.AtOk at this;rw [zao hi] at this;refine ⟨⟨this.1,this.2.1⟩,Int.natCast_nonneg _,?_⟩;have h3:=(zcG ((dat D (segN (Qm.getM s).1.l[i])).getD []) (Qm.getM s).1.l[i]).2
   have h4:((dat D (segN (Qm.getM s).1.l[i])).getD []).length<=Dp.used D.f:=by
    rcases zaJ D (segN (Qm.getM s).1.l[i]) with ⟨h,_⟩ | ⟨s,h,_,h4⟩
    · rw [h];exact Nat.zero_le _
    · rw [h];exact h4
   have h5:=hS.u;show ((Gp.full _ _).2.1:Int)<=_;omega
theorem zbd (fa:Option Addr) (fn fc:Nat) (D:Dp.Dk) (w:World) (k:Nat) (hv:IsL FL w (.slice fa fn fc) D.f) (hS:Bd D k) (hk:k<=10000):
 Calls Tryz.prog 10 #[zac (.slice fa fn fc) D] w (zdS w (.slice fa fn fc) (.slice none 0 0) (Lg.openT D)):=by
 have C0:=zid (Cw.start (w:=w) hv #[.slice none 0 0,.int .i64 0,.bool false,.int .i64 0,.bool false,.int .i64 0,.slice none 0 0,.int .i64 0,.int .i64 0,.int .i64 0,.int .u32 0] 30);have RB:=fun (W:World) (h:IsL FL W (.slice fa fn fc) D.f)=>Dsk.read_any (.slice fa fn fc) D nm W h hS.r.2.1 (by have:=hS.n;omega);have BG:=fun (W:World) (h:IsL FL W (.slice fa fn fc) D.f)=>ziq fa fn fc D W k h hS hk;have HR:=Lg.openT_eq D;have TD:=fun (s:ByteArray) (W:World) (h:IsL FL W (.slice fa fn fc) D.f) (hs:s.size<=3000000000)=>zjp fa fn fc D s W k h hS (by omega) hs;have TF:=fun (s:List UInt8) (S:St) (h:Lg.toldT D s=some S)=>ze1 hS (by omega) h;have ST:=fun (S:St) (ga:Option Addr) (gn gc:Nat) (W:World) (hd:S.d=D) (h1:IsL FL W (.slice fa fn fc) S.d.f) (h2:IsL Rts.SL W (.slice ga gn gc) S.g) (hn:S.g≠[]) (hB:∀g∈S.g,(0<=g.b/\g.b<=1099511627776)/\0<=g.z/\g.z<=1000000000000) (hl:gn<=1000)=>zfC fa ga fn fc gn gc S W k h1 h2 hn hB hl (by rw [hd];exact hS) hk;have hSu:=hS.u;obtain ⟨R,hRR⟩:∃R,Lg.openT D=R:=⟨_,rfl⟩;rw [hRR] at HR ⊢;unfold zac at BG RB TD ⊢;replace BG:=zid BG;replace TD:=zid TD;replace TF:=zid TF;replace ST:=zid ST;have HU:=zid hSu;have RC:=zaJ D nm;replace RB:=zid RB;clear hv hS hRR hSu
 go_enter Tryz.func10,Tryz.ntmps10
 go_upto_region 1 with (fail);obtain ⟨w0,hw0⟩:∃w0,(w.alloc (.cells #[.slice fa fn fc,.int .i64 D.c,.bool D.a,.int .i64 D.l,.bool D.x] 24)).alloc (.cells #[.slice none 0 0,.int .i64 0,.bool false,.int .i64 0,.bool false,.int .i64 0,.slice none 0 0,.int .i64 0,.int .i64 0,.int .i64 0,.int .u32 0] 30)=w0:=⟨_,rfl⟩;unfold dC at C0;rw [hw0] at C0 ⊢;have C0:=zid (show Cw w (.slice fa fn fc) w.heap.size (.slice fa fn fc) D (w.heap.size+1) zS [] w0 from C0.out);clear hw0;obtain ⟨d0,d1,d2,d3,d4⟩:=zaa C0.out.d
 by_cases hx:D.x=true
 case pos=>
  have HF:=zid (HR.trans (if_pos hx));obtain ⟨⟨z0,z1,z2,z3,z4⟩,z5,z6,z7,z8,z9,z10⟩:=zab C0.out.r;have zf:=zah C0.out.r;clear HR BG RB TD TF ST;rw [hx] at d4;go_wp2_with fail;obtain ⟨Y,hY,hr,hA⟩:=C0.out.bare;rw [hx] at hY;rw [hY];obtain ⟨⟨x0,x1,x2,x3,x4⟩,x5,x6,x7,x8,x9,x10⟩:=zab hr;refine bodyPost_ret (v:= .tuple #[zag (.slice fa fn fc) (.slice none 0 0) (Lg.bare D),.int .i64 10]) (by unfold zag Lg.bare;simp [results,Tryz.results10,go_sem,x0,x1,x2,x3,x4,x5,x6,x7,x8,x9,x10];simp [Lg.bare]) rfl ?_;rw [HF.out];exact hA 10
 case neg=>
 have hxf:D.x=false:=by simpa using hx
 replace HR:=HR.trans (if_neg hx);have HRH:=zid HR;clear HR hx;go_upto_region 3 with (fail);clear hxf;have HR:=HRH.out;clear HRH
 rcases RC with ⟨h1,h2⟩ | ⟨s,h1,h2,h3⟩
 case inl=>
  have RB:=RB.out;rw [h2] at RB;unfold nm at RB;replace RB:=zid RB;rw [h1] at HR;have HF:=zid HR;obtain ⟨⟨T,E⟩,hT⟩:∃R,Lg.freshT D=R:=⟨_,rfl⟩;have BG:=BG.out;dsimp only at HF;rw [hT] at HF BG;replace BG:=zid BG;clear HR h1 h2 hT TD TF ST HU;go_wp2_with fail;refine (RB.out _ C0.out.f).mono ?_;rintro e w1 ⟨rfl,b1⟩;have C1:=zid (C0.out.keep b1);clear b1 d0 d1 d2 d3 d4 C0 RB;obtain ⟨d0,d1,d2,d3,d4⟩:=zaa C1.out.d;go_wp2_with fail;refine (BG.out _ C1.out.f).mono ?_;rintro e w5 ⟨a5,n5,c5,a6,n6,c6,rfl,ks⟩;obtain ⟨⟨z0,z1,z2,z3,z4⟩,z5,z6,z7,z8,z9,z10⟩:=zab (hkeep C1.out.r ks.w);have zf:=zah (hkeep C1.out.r ks.w);have LY:=zid (C1.out.put ks);clear ks d0 d1 d2 d3 d4 BG;unfold zag;go_wp2_with fail;obtain ⟨Y,hY,hr,hA⟩:=LY.out;rw [hY];obtain ⟨⟨x0,x1,x2,x3,x4⟩,x5,x6,x7,x8,x9,x10⟩:=zab hr;refine bodyPost_ret (v:= .tuple #[zag (.slice a5 n5 c5) (.slice a6 n6 c6) T,.int .i64 E]) (by unfold zag;simp [results,Tryz.results10,go_sem,x0,x1,x2,x3,x4,x5,x6,x7,x8,x9,x10]) rfl ?_;rw [HF.out];exact hA E
 case inr=>
 have RB:=RB.out;rw [h2] at RB;unfold nm at RB;replace RB:=zid RB;rw [h1] at HR;dsimp only at HR
 have hs3:s.size<=3000000000:=by have:=HU.out;omega
 have HS3:=zid hs3;have HRR:=zid HR;clear h1 h2 h3 BG HU hs3 HR;go_wp2_with fail;refine (RB.out _ C0.out.f).mono ?_;rintro e w1 ⟨rfl,b1⟩;have C1:=zid (C0.out.keep b1);clear b1 d0 d1 d2 d3 d4 C0 RB;obtain ⟨d0,d1,d2,d3,d4⟩:=zaa C1.out.d;go_wp2_with fail;refine (TD.out _ _ C1.out.f HS3.out).mono ?_;rintro e w2 ⟨a,n,c,ga,gn,gc,S,rfl,b2,hS⟩
 rcases ht:Lg.toldT D s.data.toList with _ | S'
 case none=>
  have HF:=zid (HRR.out.trans (show _=(Lg.bare D,3) by rw [ht]));have B2:=zaC w2 (.cells #[.slice a n c,.int .i64 S.d.c,.bool S.d.a,.int .i64 S.d.l,.bool S.d.x,.int .i64 S.v,.slice ga gn gc,.int .i64 S.x,.int .i64 S.s,.int .i64 S.z,.int .u32 S.c] 30);have C2:=zid ((C1.out.keep b2).keep B2);clear HRR ht hS b2 B2 C1 d0 d1 d2 d3 d4 TD TF ST;unfold zag;go_upto_region 7 with (fail);generalize w2.alloc _=w3 at C2 ⊢;obtain ⟨d0,d1,d2,d3,d4⟩:=zaa C2.out.d;obtain ⟨⟨z0,z1,z2,z3,z4⟩,z5,z6,z7,z8,z9,z10⟩:=zab C2.out.r;have zf:=zah C2.out.r;go_wp2_with fail;obtain ⟨Y,hY,hr,hA⟩:=C2.out.bare;rw [hY];obtain ⟨⟨x0,x1,x2,x3,x4⟩,x5,x6,x7,x8,x9,x10⟩:=zab hr;refine bodyPost_ret (v:= .tuple #[zag (.slice fa fn fc) (.slice none 0 0) (Lg.bare D),.int .i64 3]) (by unfold zag Lg.bare;simp [results,Tryz.results10,go_sem,x0,x1,x2,x3,x4,x5,x6,x7,x8,x9,x10];simp [Lg.bare]) rfl ?_;rw [HF.out];exact hA 3
 case some=>
 obtain ⟨rfl,hfv,hgl,hgs⟩:=hS S' ht
 injection hfv with hf1 hf2 hf3
 subst hf1 hf2 hf3;obtain ⟨t1,t2,t3,t4⟩:=TF.out _ _ ht
 have HF:=HRR.out.trans (show _=(if (Lg.settT S').2≠0 then (Lg.bare (Lg.settT S').1,(Lg.settT S').2) else ({S' with d:=(Lg.settT S').1},0)) by rw [ht])
 have ST2:=fun (W:World) (h1:IsL FL W (.slice a n c) S'.d.f) (h2:IsL Rts.SL W (.slice ga gn gc) S'.g)=>ST.out S' ga gn gc W t1 h1 h2 t2 t4 (by have:=hgl.len.1;omega);obtain ⟨⟨D2,E2⟩,hT⟩:∃R,Lg.settT S'=R:=⟨_,rfl⟩;rw [hT] at HF ST2;dsimp only at HF;unfold zag at ST2;clear ST;replace HF:=zid HF;obtain ⟨SD,v,g,x,sr,z,cs⟩:=S';dsimp only at t1 hgl;subst t1;dsimp only at ST2 HF;replace ST2:=zid ST2;have M2:=zid ((C1.out.2.2.fresh b2 hgl hgs).alloc #[.slice a n c,.int .i64 SD.c,.bool SD.a,.int .i64 SD.l,.bool SD.x,.int .i64 v,.slice ga gn gc,.int .i64 x,.int .i64 sr,.int .i64 z,.int .u32 cs] 30);have hlt:w.heap.size+1<w2.heap.size:=Nat.lt_of_lt_of_le C1.out.rlt b2.size;clear HRR ht hS hgl hgs b2 t2 t3 t4 hT C1 d0 d1 d2 d3 d4 TD TF;unfold zag;dsimp only;go_upto_region 7 with (fail);generalize w2.alloc _=w3 at M2 ⊢;generalize w2.heap.size=t at M2 hlt ⊢;obtain ⟨⟨k0,k1,k2,k3,k4⟩,k5,k6,k7,k8,k9,k10⟩:=zab (M2.out.at_ (t:=t) mcs);go_wp2_with fail;refine (ST2.out _ (M2.out.fl mcs) (M2.out.sl mcs)).mono ?_;rintro e w5 ⟨a5,n5,c5,rfl,ks⟩;obtain ⟨y0,y1,y2,y3,y4⟩:=zaa (hkeep (M2.out.at_ (t:=w.heap.size) (mcm mcs)) ks.w);obtain ⟨yf0,yf1,yf2,yf3,yf4⟩:=zae (hkeep (M2.out.at_ (t:=w.heap.size) (mcm mcs)) ks.w)
 have LY:=zid ((M2.out.call mcs ks).lay5 (t:=w.heap.size) (cs':=[(w.heap.size,dC (.slice a5 n5 c5) D2),(t,sC (.slice a n c) (.slice ga gn gc) ⟨SD,v,g,x,sr,z,cs⟩),(w.heap.size+1,zS)]) (mcm mcs) (.slice a5 n5 c5) (.int .i64 D2.c) (.bool D2.a) (.int .i64 D2.l) (.bool D2.x) (fun q hq=>by
  simp only [List.mem_cons,List.not_mem_nil,or_false] at hq ⊢
  rcases hq with rfl | rfl | rfl
  · exact .inl rfl
  · exact .inr ⟨.inl rfl,by show t≠w.heap.size;omega⟩
  · exact .inr ⟨.inr (.inr rfl),by show w.heap.size+1≠w.heap.size;omega⟩))
 clear ks k0 k1 k2 k3 k4 k5 k6 k7 k8 k9 k10 ST2 M2;unfold zac;go_upto_region 10 with (fail);obtain ⟨Z,hZ,CZ⟩:=LY.out;rw [hZ];have M3:=zid CZ;clear hZ CZ LY y0 y1 y2 y3 y4 yf0 yf1 yf2 yf3 yf4;obtain ⟨d0,d1,d2,d3,d4⟩:=zaa (M3.out.at_ (t:=w.heap.size) mcs);obtain ⟨⟨z0,z1,z2,z3,z4⟩,z5,z6,z7,z8,z9,z10⟩:=zab (M3.out.at_ (t:=w.heap.size+1) (mcm (mcm mcs)));have zf:=zah (M3.out.at_ (t:=w.heap.size+1) (mcm (mcm mcs)))
 by_cases hE:E2=0
 case neg=>
  replace HF:=zid (HF.out.trans (if_pos hE))
  have he:(E2 != 0)=true:=by simpa using hE
  go_wp2_with fail;obtain ⟨Y,hY,M4⟩:=(M3.out.fresh (Below.refl _ _) (IsL.nil Z none 0) (fun _ _=>Sep.nil _ _ _)).lay11 (t:=w.heap.size+1) (cs':=[(w.heap.size+1,sC (.slice a5 n5 c5) (.slice none 0 0) (Lg.bare D2))]) (mcm (mcm mcs)) (.slice a5 n5 c5) (.int .i64 D2.c) (.bool D2.a) (.int .i64 D2.l) (.bool D2.x) (.int .i64 0) (.slice none 0 0) (.int .i64 0) (.int .i64 0) (.int .i64 0) (.int .u32 0) (fun p hp=> .inl (List.mem_singleton.1 hp));rw [hY];obtain ⟨⟨x0,x1,x2,x3,x4⟩,x5,x6,x7,x8,x9,x10⟩:=zab (M4.at_ mcs);refine bodyPost_ret (v:= .tuple #[zag (.slice a5 n5 c5) (.slice none 0 0) (Lg.bare D2),.int .i64 E2]) (by unfold zag Lg.bare;simp [results,Tryz.results10,go_sem,x0,x1,x2,x3,x4,x5,x6,x7,x8,x9,x10];simp [Lg.bare]) rfl ?_;rw [HF.out];exact ⟨_,_,_,_,_,_,rfl,M4.sts (T:=Lg.bare D2) mcs mcs⟩
 case pos=>
 subst hE;replace HF:=zid (HF.out.trans (if_neg (fun h=>h rfl)));obtain ⟨⟨k0,k1,k2,k3,k4⟩,k5,k6,k7,k8,k9,k10⟩:=zab (M3.out.at_ (t:=t) (mcm mcs));have kf:=zah (M3.out.at_ (t:=t) (mcm mcs));go_upto_region 13 with (fail)
 obtain ⟨Y,hY,M4⟩:=M3.out.layD (t:=t) (cs':=[(t,sC (.slice a5 n5 c5) (.slice ga gn gc) ⟨D2,v,g,x,sr,z,cs⟩),(w.heap.size+1,zS)]) (mcm mcs) (.slice a5 n5 c5) (.int .i64 D2.c) (.bool D2.a) (.int .i64 D2.l) (.bool D2.x) (fun q hq=>by
  simp only [List.mem_cons,List.not_mem_nil,or_false] at hq ⊢
  rcases hq with rfl | rfl
  · exact .inl rfl
  · exact .inr ⟨.inr (.inr rfl),by show w.heap.size+1≠t;omega⟩)
 rw [hY];have M4:=zid M4;clear hY k0 k1 k2 k3 k4 k5 k6 k7 k8 k9 k10 kf d0 d1 d2 d3 d4 z0 z1 z2 z3 z4 z5 z6 z7 z8 z9 z10 zf M3;obtain ⟨⟨k0,k1,k2,k3,k4⟩,k5,k6,k7,k8,k9,k10⟩:=zab (M4.out.at_ (t:=t) mcs);obtain ⟨⟨z0,z1,z2,z3,z4⟩,z5,z6,z7,z8,z9,z10⟩:=zab (M4.out.at_ (t:=w.heap.size+1) (mcm mcs));have zf:=zah (M4.out.at_ (t:=w.heap.size+1) (mcm mcs));go_wp2_with fail;obtain ⟨X,hX,M5⟩:=M4.out.lay11 (t:=w.heap.size+1) (cs':=[(w.heap.size+1,sC (.slice a5 n5 c5) (.slice ga gn gc) ⟨D2,v,g,x,sr,z,cs⟩)]) (mcm mcs) (.slice a5 n5 c5) (.int .i64 D2.c) (.bool D2.a) (.int .i64 D2.l) (.bool D2.x) (.int .i64 v) (.slice ga gn gc) (.int .i64 x) (.int .i64 sr) (.int .i64 z) (.int .u32 cs) (fun p hp=> .inl (List.mem_singleton.1 hp));rw [hX];obtain ⟨⟨x0,x1,x2,x3,x4⟩,x5,x6,x7,x8,x9,x10⟩:=zab (M5.at_ mcs);refine bodyPost_ret (v:= .tuple #[zag (.slice a5 n5 c5) (.slice ga gn gc) ⟨D2,v,g,x,sr,z,cs⟩,.int .i64 0]) (by unfold zag;simp [results,Tryz.results10,go_sem,x0,x1,x2,x3,x4,x5,x6,x7,x8,x9,x10]) rfl ?_;rw [HF.out];exact ⟨_,_,_,_,_,_,rfl,M5.sts (T:=⟨D2,v,g,x,sr,z,cs⟩) mcs mcs⟩
end Ro
end Go.Proofs.YtooipogbmfkeeaaGreat

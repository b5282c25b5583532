/-
  Parts of what the laws of this seat stand on:StoSwp,StoManP,StoCrt,RoOpn,RoBd.
-/
import Derived.Test.YtgmppfpllogdcaaGreatBi1
import Derived.Deep.DeepCutAuto
import Derived.Test.YtgmppfpllogdcaaGreatBi14
import Derived.Test.YtgmppfpllogdcaaGreatBi21
import Derived.Test.YtgmppfpllogdcaaGreatBi24
import Derived.Test.YtgmppfpllogdcaaGreatBi25
import Derived.Test.YtgmppfpllogdcaaGreatBi26
import Derived.Test.YtgmppfpllogdcaaGreatBi28
import Derived.Test.YtgmppfpllogdcaaGreatBi9
set_option maxRecDepth 100000
set_option maxHeartbeats 6400000
namespace Go.Proofs.YtgmppfpllogdcaaGreat
namespace Sto
open Go.RowKit So Dsk Rts
def z5:Obj:= .cells #[.slice none 0 0,.int .i64 0,.bool false,.int .i64 0,.bool false] 27
theorem zfj (fa:Option Addr) (fn fc:Nat) (D:Dp.Dk) (n:ByteArray) (w:World) (k:Nat) (hv:IsL FL w (.slice fa fn fc) D.f) (hS:Bd D k) (hk:k<=200000):
 Calls Tryz.prog 132 #[zac (.slice fa fn fc) D,.string n] w (zaL w (.slice fa fn fc) (wo D n)):=by
 have M0:=(((Ms.start (gv:= .slice none 0 0) (lg:=[]) hv (IsL.nil w none 0)).alloc #[.slice fa fn fc,.int .i64 D.c,.bool D.a,.int .i64 D.l,.bool D.x] 27).alloc #[.slice none 0 0,.int .i64 0,.bool false,.int .i64 0,.bool false] 27);rw [World.size_alloc] at M0;have HM0:=zid M0;obtain ⟨⟨D1,E1⟩,h1⟩:∃R,Dp.delete D n=R:=⟨_,rfl⟩;have C:=zid fun (W:World) (h:IsL FL W (.slice fa fn fc) D.f)=>zfK hS hk n h;rw [h1] at C;have HW:=zid (show wo D n=(D1,if E1=0 then 9 else E1) by unfold wo;rw [h1]);clear h1 hv hS hk M0;unfold zac at C ⊢
 go_enter Tryz.func132,Tryz.ntmps132
 go_upto_region 1 with (fail);generalize World.alloc (World.alloc w _) _=w0 at HM0 ⊢;obtain ⟨p0,p1,p2,p3,p4⟩:=zaa (HM0.out.at_ (mcm mcs));go_wp2_with fail;refine (C.out _ (HM0.out.fl mcs)).mono ?_;rintro e w1 ⟨a,m,c,rfl,kk⟩;have M1:=HM0.out.call (D':=D1) mcs kk;have HM1:=zid M1;clear p0 p1 p2 p3 p4 kk C;obtain ⟨p0,p1,p2,p3,p4⟩:=zaa (M1.at_ (mcm mcs));obtain ⟨pf0,pf1,pf2,pf3,pf4⟩:=zad (M1.at_ (mcm mcs));clear M1;unfold zac;go_upto_region 2 with (fail)
 obtain ⟨Z,hZ,M2⟩:=HM1.out.lay5 (cs':=[(w.heap.size+1,z5),(w.heap.size,.cells #[.slice a m c,.int .i64 D1.c,.bool D1.a,.int .i64 D1.l,.bool D1.x] 27)]) (mcm mcs) (.slice a m c) (.int .i64 D1.c) (.bool D1.a) (.int .i64 D1.l) (.bool D1.x) (fun p hp=>by
  simp only [List.mem_cons,List.not_mem_nil,or_false] at hp
  rcases hp with rfl | rfl
  · exact .inr ⟨mcs,by show w.heap.size+1≠w.heap.size;omega⟩
  · exact .inl rfl)
 rw [hZ];have HM2:=zid M2;clear hZ p0 p1 p2 p3 p4 pf0 pf1 pf2 pf3 pf4 HM0 HM1;obtain ⟨p0,p1,p2,p3,p4⟩:=zaa (M2.at_ (mcm mcs));obtain ⟨q0,q1,q2,q3,q4⟩:=zaa (M2.at_ mcs);obtain ⟨qf0,qf1,qf2,qf3,qf4⟩:=zad (M2.at_ mcs)
 obtain ⟨Y,hY,M3⟩:=M2.lay5 (cs':=[(w.heap.size+1,.cells #[.slice a m c,.int .i64 D1.c,.bool D1.a,.int .i64 D1.l,.bool D1.x] 27)]) mcs (.slice a m c) (.int .i64 D1.c) (.bool D1.a) (.int .i64 D1.l) (.bool D1.x) (fun p hp=>by
  simp only [List.mem_cons,List.not_mem_nil,or_false] at hp;subst hp
  exact .inl rfl)
 have HY:=zid hY;have HM3:=zid M3;clear M2 M3 hY
 by_cases hz:E1=0
 · subst hz
   go_wp2_with fail
   rw [HY.out];obtain ⟨z0,z1,z2,z3,z4⟩:=zaa (HM3.out.at_ mcs);refine bodyPost_ret (v:= .tuple #[.agg #[.slice a m c,.int .i64 D1.c,.bool D1.a,.int .i64 D1.l,.bool D1.x],.int .i64 9]) (by simp [results,Tryz.results132,go_sem,z0,z1,z2,z3,z4]) rfl ?_;rw [HW.out];exact ⟨_,_,_,rfl,HM3.out.dks mcs⟩
 · have hz':=ne_b hz
   have HZ:=zid hz
   clear hz;go_wp2_with fail;rw [HY.out];obtain ⟨z0,z1,z2,z3,z4⟩:=zaa (HM3.out.at_ mcs);refine bodyPost_ret (v:= .tuple #[.agg #[.slice a m c,.int .i64 D1.c,.bool D1.a,.int .i64 D1.l,.bool D1.x],.int .i64 E1]) (by simp [results,Tryz.results132,go_sem,z0,z1,z2,z3,z4]) rfl ?_;rw [HW.out,if_neg HZ.out];exact ⟨_,_,_,rfl,HM3.out.dks mcs⟩
def Sw (w:World) (fv:Value) (M:Obj) (e:Nat) (v:Value) (X:Dp.Dk×Int) (W:World):Prop:=Tk w w.heap.size fv (.slice none 0 0) w.heap.size e (e+1) form5 27 [(w.heap.size+1,M),(w.heap.size+1+1,z5)] [] v X W
def SwR (w:World) (fv:Value) (M:Obj) (e:Nat) (X:Dp.Dk×Int) (W:World):Prop:=∃a n c,Sw w fv M e (.slice a n c) X W
theorem zi8 (fa:Option Addr) (fn fc:Nat) (D:Dp.Dk) (ma:Option Addr) (mn mc:Nat) (m:Qm.Mn) (w:World) (k:Nat) (hv:IsL FL w (.slice fa fn fc) D.f) (hm:IsL Mfs.IL w (.slice ma mn mc) m.l) (hS:Bd D k) (hk:k<=100000) (hM:Mfs.MnB m):
 Calls Tryz.prog 105 #[zac (.slice fa fn fc) D,Mfs.mnVal ma mn mc m] w (zaL w (.slice fa fn fc) (swap D m)):=by
 have M0:=(((Ms.start (gv:= .slice none 0 0) (lg:=[]) hv (IsL.nil w none 0)).alloc #[.slice fa fn fc,.int .i64 D.c,.bool D.a,.int .i64 D.l,.bool D.x] 27).alloc #[.int .i64 m.v,.slice ma mn mc,.int .i64 m.z,.int .u32 m.c] 76).alloc #[.slice none 0 0,.int .i64 0,.bool false,.int .i64 0,.bool false] 27;simp only [World.size_alloc] at M0;have HM0:=zid M0;have HI0:=zid (hm.keep (((zbI w (.cells #[.slice fa fn fc,.int .i64 D.c,.bool D.a,.int .i64 D.l,.bool D.x] 27)).alloc (zbI w _).size (.cells #[.int .i64 m.v,.slice ma mn mc,.int .i64 m.z,.int .u32 m.c] 76)).alloc (by simp;omega) (.cells #[.slice none 0 0,.int .i64 0,.bool false,.int .i64 0,.bool false] 27)));have P:=fun (W:World) (h:IsL Mfs.IL W (.slice ma mn mc) m.l)=>Mfs.put10_any ma mn mc m W h hM;have hsz:=ziw m;have HSW:=swap_p D m;unfold swapP zi7 at HSW;unfold Mfs.putVal10 at P;obtain ⟨s,hs⟩:∃s:ByteArray,(⟨(Qm.putM m).1.toArray⟩:ByteArray)=s:=⟨_,rfl⟩;obtain ⟨E0,hE0⟩:∃E0,(Qm.putM m).2=E0:=⟨_,rfl⟩;rw [hs] at P HSW hsz;rw [hE0] at P HSW;dsimp only at HSW
 have c1:Bd (if (Dp.get D.f nn).isSome=true then tk (D,E0) (Dp.delete D nn) else (D,E0)).1 (k+1):=by
  split
  · exact bd_tk hS (zam hS nn)
  · exact hS.mono (Nat.le_succ k)
 have HX1y:=fun h:(Dp.get D.f nn).isSome=true=>(if_pos h:(if (Dp.get D.f nn).isSome=true then tk (D,E0) (Dp.delete D nn) else (D,E0))=_);have HX1n:=fun h:¬(Dp.get D.f nn).isSome=true=>(if_neg h:(if (Dp.get D.f nn).isSome=true then tk (D,E0) (Dp.delete D nn) else (D,E0))=_);obtain ⟨X1,hX1⟩:∃X1,(if (Dp.get D.f nn).isSome=true then tk (D,E0) (Dp.delete D nn) else (D,E0))=X1:=⟨_,rfl⟩;rw [hX1] at HSW c1 HX1y HX1n;have c2:=bd_tk c1 (zas c1 nn);obtain ⟨X2,hX2⟩:∃X,tk X1 (Dp.create X1.1 nn)=X:=⟨_,rfl⟩;rw [hX2] at HSW c2;have c3:=bd_tk c2 (zbb c2 nn hsz);obtain ⟨X3,hX3⟩:∃X,tk X2 (Dp.append X2.1 nn s)=X:=⟨_,rfl⟩;rw [hX3] at HSW c3;have c4:=bd_tk c3 (zbs c3 nn);obtain ⟨X4,hX4⟩:∃X,tk X3 (Dp.sync X3.1 nn)=X:=⟨_,rfl⟩;rw [hX4] at HSW c4;obtain ⟨X5,hX5⟩:∃X,tk X4 (Dp.rename X4.1 nn nm)=X:=⟨_,rfl⟩;rw [hX5] at HSW;have HC:=zid (And.intro c1 (And.intro c2 (And.intro c3 (And.intro c4 (And.intro hS hsz)))));have HX2:=zid hX2;have HX3:=zid hX3;have HX4:=zid hX4;have HX5:=zid hX5;replace HX1y:=zid HX1y;replace HX1n:=zid HX1n;replace HSW:=zid HSW;replace P:=zid P;have HAS:=zid fun (v:Value) (W:World) (h:IsL FL W v D.f)=>zlo v D nn W h (zaM hS (by omega));clear hv hm hS hM hsz hs hE0 c1 c2 c3 c4 hX1 hX2 hX3 hX4 hX5 M0;unfold zac Mfs.mnVal;unfold zac at HAS;unfold Mfs.mnVal at P
 go_enter Tryz.func105,Tryz.ntmps105
 go_upto_region 1 with (fail);generalize World.alloc (World.alloc (World.alloc w _) _) _=w0 at HM0 HI0 ⊢;obtain ⟨m0,m1,m2,m3⟩:=zcW (HM0.out.at_ (mcm mcs));go_wp2_with fail;refine (P.out _ HI0.out).mono ?_;rintro e w1 ⟨rfl,b1⟩;have HM1:=zid ((HM0.out.keep b1).alloc #[.int .i64 E0] 35);have hle:w.heap.size+1+1<w1.heap.size:=Nat.lt_of_lt_of_le (HM0.out.lt mcs) b1.size;clear b1 m0 m1 m2 m3 HI0 HM0 P;go_wp2_with fail;refine (zi6 _ _ _).mono ?_;rintro en w2 ⟨rfl,rfl⟩
 have T2:=Tk.new (A:=form5) (T:=27) (t:=w.heap.size) (e:=w1.heap.size) (v:= .slice fa fn fc) (X:=(D,E0)) (xs:=[(w.heap.size+1,.cells #[.int .i64 m.v,.slice ma mn mc,.int .i64 m.z,.int .u32 m.c] 76),(w.heap.size+1+1,z5)]) (gs:=[]) (HM1.out.sub (fun p hp=>by
  simp only [List.mem_cons,List.not_mem_nil,or_false] at hp ⊢
  rcases hp with rfl | rfl | rfl | rfl
  · exact .inr (.inr (.inr rfl))
  · exact .inl rfl
  · exact .inr (.inr (.inl rfl))
  · exact .inr (.inl rfl)) (fun _ hp=>hp) (fun _ hp=>absurd hp List.not_mem_nil)) (by omega) (fun p hp=>by
  simp only [List.mem_cons,List.not_mem_nil,or_false] at hp
  rcases hp with rfl | rfl
  · exact ⟨by show w.heap.size+1≠w.heap.size;omega,by show w.heap.size+1≠w1.heap.size;omega⟩
  · exact ⟨by show w.heap.size+1+1≠w.heap.size;omega,by show w.heap.size+1+1≠w1.heap.size;omega⟩)
 simp only [World.size_alloc] at T2 ⊢;obtain ⟨e,he⟩:∃e,w1.heap.size=e:=⟨_,rfl⟩;rw [he] at T2 ⊢;obtain ⟨M,hM⟩:∃M:Obj,Obj.cells #[.int .i64 m.v,.slice ma mn mc,.int .i64 m.z,.int .u32 m.c] 76=M:=⟨_,rfl⟩;rw [hM] at T2;generalize World.alloc (World.alloc (World.alloc w1 _) _) _=w2 at T2 ⊢;have HT2:=zid (show Sw w (.slice fa fn fc) M e (.slice fa fn fc) (D,E0) w2 from T2);obtain ⟨p0,p1,p2,p3,p4⟩:=zaa T2.hd;clear T2 hle HM1 he hM;go_wp2_with fail;refine (HAS.out _ _ HT2.out.fl).mono ?_;rintro en w3 ⟨rfl,b3⟩;have HT3:=zid (HT2.out.keep b3);clear p0 p1 p2 p3 p4 b3 HAS HT2
 go_upto_if 16 with (fail)
 go_cut [6] (fun v wc=>v= .string s/\SwR w (.slice fa fn fc) M e X1 wc)
 case first=>
  rcases hb:(Dp.get D.f nn).isSome with _ | _
  · have HB:=zid (show ¬(Dp.get D.f nn).isSome=true by rw [hb];simp)
    clear hb
    go_wp2_with fail;go_meet
    case rel=>exact ⟨rfl,_,_,_,by rw [HX1n.out HB.out];exact HT3.out⟩
  · have HB:=zid hb
    clear hb
    go_wp2_with fail;refine (deleted_any nn _).mono ?_;rintro en w4 ⟨rfl,rfl⟩;go_wp2_with fail;refine (Tk.take zdy (HT3.out.al _) (zhm HC.out.2.2.2.2.1 (by omega) nn HT3.out.fl)).mono ?_;rintro en w5 ⟨rfl,a5,n5,c5,T5⟩;have HT5:=zid T5;clear T5;go_wp2_with fail;go_meet
    case rel=>exact ⟨rfl,_,_,_,by rw [HX1y.out HB.out];exact HT5.out⟩
 case rest=>
  obtain ⟨rfl,a3,n3,c3,T4⟩:=hcut;have HT4:=zid T4;clear T4 HT3 HX1y HX1n;go_wp2_with fail;refine (created_any nn _).mono ?_;rintro en w4 ⟨rfl,rfl⟩;go_wp2_with fail;refine (Tk.take zdy (HT4.out.al _) (zhn HC.out.1 (by omega) nn (by decide) HT4.out.fl)).mono ?_;rintro en w5 ⟨rfl,a5,n5,c5,T5⟩;rw [HX2.out] at T5;have HT5:=zid T5;clear T5 HT4;go_wp2_with fail;refine (appended_any nn s _).mono ?_;rintro en w6 ⟨rfl,rfl⟩;go_wp2_with fail;refine (Tk.take zdy (HT5.out.al2 _ _) (zgb HC.out.2.1 (by omega) nn s HC.out.2.2.2.2.2 HT5.out.fl)).mono ?_;rintro en w7 ⟨rfl,a7,n7,c7,T7⟩;rw [HX3.out] at T7;have HT7:=zid T7;obtain ⟨ec,_⟩:=zaE T7.he;clear T7 HT5
  by_cases h9:X3.2=9
  · have H9:=zid h9
    obtain ⟨⟨WD,WE⟩,hW⟩:∃R,wo X3.1 nn=R:=⟨_,rfl⟩
    have CW:=zfj a7 n7 c7 X3.1 nn w7 _ HT7.out.fl HC.out.2.2.1 (by omega);rw [hW] at CW;have HF:=zid (show swap D m=(WD,WE) by rw [HSW.out,if_pos h9,hW]);unfold zac at CW;replace CW:=zid CW;obtain ⟨p0,p1,p2,p3,p4⟩:=zaa HT7.out.hd;rw [h9] at ec;clear hW h9;go_wp2_with fail;refine CW.out.mono ?_;rintro en w8 ⟨a8,n8,c8,rfl,kk⟩;have M8:=HT7.out.m.call (D':=WD) mcs kk;have hz:=M8.at_ (t:=w.heap.size+1+1) (o:=z5) (mcm (mcm (mcm (mcm (mcm mcs)))));obtain ⟨q0,q1,q2,q3,q4⟩:=zaa hz;obtain ⟨qf0,qf1,qf2,qf3,qf4⟩:=zad hz
    obtain ⟨Z,hZ,M9⟩:=M8.lay5 (cs':=[(w.heap.size+1+1,.cells #[.slice a8 n8 c8,.int .i64 WD.c,.bool WD.a,.int .i64 WD.l,.bool WD.x] 27)]) (t:=w.heap.size+1+1) (mcm (mcm (mcm (mcm (mcm mcs))))) (.slice a8 n8 c8) (.int .i64 WD.c) (.bool WD.a) (.int .i64 WD.l) (.bool WD.x) (fun p hp=>by
     simp only [List.mem_cons,List.not_mem_nil,or_false] at hp;subst hp
     exact .inl rfl)
    have HZ:=zid hZ;have HM9:=zid M9;clear kk M8 hz hZ M9 CW p0 p1 p2 p3 p4 ec;unfold zac;go_wp2_with fail;rw [HZ.out];obtain ⟨z0,z1,z2,z3,z4⟩:=zaa (HM9.out.at_ mcs);refine bodyPost_ret (v:= .tuple #[.agg #[.slice a8 n8 c8,.int .i64 WD.c,.bool WD.a,.int .i64 WD.l,.bool WD.x],.int .i64 WE]) (by simp [results,Tryz.results105,go_sem,z0,z1,z2,z3,z4]) rfl ?_;rw [HF.out];exact ⟨_,_,_,rfl,HM9.out.dks mcs⟩
  · have HF:=zid (show swap D m=X5 by rw [HSW.out,if_neg h9])
    have h9':=ne_b h9
    clear h9;go_wp2_with fail;clear ec;refine (synced_any nn _).mono ?_;rintro en w8 ⟨rfl,rfl⟩;go_wp2_with fail;refine (Tk.take zdy (HT7.out.al _) (zi9 HC.out.2.2.1 (by omega) nn HT7.out.fl)).mono ?_;rintro en w9 ⟨rfl,a9,n9,c9,T9⟩;rw [HX4.out] at T9;have HT9:=zid T9;clear T9 HT7;go_wp2_with fail;refine (zhH nn nm _).mono ?_;rintro en w10 ⟨rfl,rfl⟩;go_wp2_with fail;refine (Tk.take zdy (HT9.out.al2 _ _) (zhl HC.out.2.2.2.1 (by omega) nn nm (by decide) HT9.out.fl)).mono ?_;rintro en w11 ⟨rfl,a11,n11,c11,T11⟩;rw [HX5.out] at T11;have HT11:=zid T11;obtain ⟨p0,p1,p2,p3,p4⟩:=zaa T11.hd;obtain ⟨ec,_⟩:=zaE T11.he;have hz:=T11.hx (i:=w.heap.size+1+1) (o:=z5) (mcm mcs);obtain ⟨q0,q1,q2,q3,q4⟩:=zaa hz;obtain ⟨qf0,qf1,qf2,qf3,qf4⟩:=zad hz;obtain ⟨XD,XE⟩:=X5
    have LY:=zid fun (W:World) (b:Below w11.heap.size w11 W)=>(HT11.out.keep b).m.lay5 (cs':=[(w.heap.size+1+1,.cells #[.slice a11 n11 c11,.int .i64 XD.c,.bool XD.a,.int .i64 XD.l,.bool XD.x] 27)]) (t:=w.heap.size+1+1) (mcm (mcm (mcm (mcm (mcm mcs))))) (.slice a11 n11 c11) (.int .i64 XD.c) (.bool XD.a) (.int .i64 XD.l) (.bool XD.x) (fun p hp=>by
     simp only [List.mem_cons,List.not_mem_nil,or_false] at hp;subst hp
     exact .inl rfl)
    have hne:=(T11.n3 (w.heap.size+1+1,z5) (mcm mcs)).2;have ne1:¬(w.heap.size+1+1=e):=hne;have ne2:¬(e=w.heap.size+1+1):=fun h=>hne h.symm;clear T11 HT9 hz hne;dsimp only at p0 p1 p2 p3 p4 ec;go_upto_region 11 with (fail)
    go_region
    all_goals
     go_wp2_with fail
     obtain ⟨Z,hZ,M8⟩:=LY.out w11 (Below.refl _ _);rw [hZ];have M9:=M8.keep (W':=Z.drew) (Below.refl _ _).drew;obtain ⟨z0,z1,z2,z3,z4⟩:=zaa (M9.at_ mcs);refine bodyPost_ret (v:= .tuple #[.agg #[.slice a11 n11 c11,.int .i64 XD.c,.bool XD.a,.int .i64 XD.l,.bool XD.x],.int .i64 XE]) (by simp [results,Tryz.results105,go_sem,z0,z1,z2,z3,z4]) rfl ?_;rw [HF.out];exact ⟨_,_,_,rfl,M9.dks mcs⟩
theorem zk6 (fv gv:Value) (S:St) (w:World) (hg:IsL Rts.SL w gv S.g) (hB:Stb S):
 Calls Tryz.prog 69 #[zag fv gv S] w (ziY w (man S)):=by
 obtain ⟨ga,gn,gc,rfl⟩:∃a n c,gv= .slice a n c:=by obtain ⟨a,c,h,_⟩:=hg;exact ⟨a,_,c,h⟩
 have hgl:=hg.len.1
 have hgn:gn<=1000:=by rw [hgl];exact hB.n
 have HGL:=zid hgl;have HB:=zid hB;obtain ⟨i1,hj,hy0,hy1,hy2⟩:=info_parts ze4;have R1:=zid (halloc (o:= .cells #[.int .i64 S.v,.slice none 0 0,.int .i64 S.z,.int .u32 S.c] 76) (halloc (o:= .cells #[.int .i64 0,.slice none 0 0,.int .i64 0,.int .u32 0] 76) (heap_alloc_new w (.cells (zaU fv (.slice ga gn gc) S) 31))));have R2:=halloc (o:= .cells #[.int .i64 S.v,.slice none 0 0,.int .i64 S.z,.int .u32 S.c] 76) (heap_alloc_new (w.alloc (.cells (zaU fv (.slice ga gn gc) S) 31)) (.cells #[.int .i64 0,.slice none 0 0,.int .i64 0,.int .u32 0] 76));have R3:=heap_alloc_new ((w.alloc (.cells (zaU fv (.slice ga gn gc) S) 31)).alloc (.cells #[.int .i64 0,.slice none 0 0,.int .i64 0,.int .u32 0] 76)) (.cells #[.int .i64 S.v,.slice none 0 0,.int .i64 S.z,.int .u32 S.c] 76);have RB:=zid ((((Below.refl w.heap.size w).alloc (Nat.le_refl _) (.cells (zaU fv (.slice ga gn gc) S) 31)).alloc (by simp) (.cells #[.int .i64 0,.slice none 0 0,.int .i64 0,.int .u32 0] 76)).alloc (by simp;omega) (.cells #[.int .i64 S.v,.slice none 0 0,.int .i64 S.z,.int .u32 S.c] 76));simp only [World.size_alloc] at R2 R3;replace R2:=zid R2;replace R3:=zid R3;clear hgl hB;unfold zaU at R1 R2 R3 RB;unfold zag
 go_enter Tryz.func69,Tryz.ntmps69
 go_wp2_with fail;generalize ((w.alloc _).alloc _).alloc _=w0 at R1 R2 R3 RB ⊢;obtain ⟨⟨k0,k1,k2,k3,k4⟩,k5,k6,k7,k8,k9,k10⟩:=zab R1.out
 go_loopw [16] (fun i wr=>∃k:Nat,k<=gn/\i= .int .i64 k/\∃v,OwnL Mfs.IL wr w.heap.size v ((S.g.map (·.b)).take k)/\wr.heap[w.heap.size]?=some (.cells #[fv,.int .i64 S.d.c,.bool S.d.a,.int .i64 S.d.l,.bool S.d.x,.int .i64 S.v,.slice ga gn gc,.int .i64 S.x,.int .i64 S.s,.int .i64 S.z,.int .u32 S.c] 31 (0,0))/\wr.heap[w.heap.size+1]?=some (.cells #[.int .i64 0,.slice none 0 0,.int .i64 0,.int .u32 0] 76 (0,0))/\wr.heap[w.heap.size+1+1]?=some (.cells #[.int .i64 S.v,v,.int .i64 S.z,.int .u32 S.c] 76 (0,0))/\Below w.heap.size w wr) (fun i _=>gn-(intOf i).toNat)
 case atStart=>exact ⟨0,Nat.zero_le _,rfl,_,OwnL.nil _ _,R1.out,R2.out,R3.out,RB.out⟩
 case round=>
  obtain ⟨k,hk,rfl,v,hO,r1,r2,r3,hb⟩:=hrel;have Q1:=zid r1;have Q2:=zid r2;have Q3:=zid r3;have QB:=zid hb;have HO:=zid hO;obtain ⟨⟨z0,z1,z2,z3,z4⟩,z5,z6,z7,z8,z9,z10⟩:=zab r1
  by_cases hlt:k<gn
  · obtain ⟨b,off,rfl,c0,cn,cz⟩:=zce (hg.keep hb) hlt
    have hbl:b<w.heap.size:=by
     have:=IsL.blk hg rfl (by omega);exact this
    have hlen:((S.g.map (·.b)).take k).length=k:=by rw [List.length_take,List.length_map, <-HGL.out];omega
    have HT:=zid (show (S.g.map (·.b)).take (k+1)=(S.g.map (·.b)).take k++[(S.g.getD k Rt.zero).b] from by
     have hk':k<(S.g.map (·.b)).length:=by rw [List.length_map, <-HGL.out];exact hlt
     rw [List.take_succ_eq_append_getElem hk'];rw [zao (by rw [<-HGL.out];exact hlt)]
     simp)
    have hO2:=hO;unfold OwnL at hO2;rw [hlen] at hO2
    obtain ⟨va,vc,rfl⟩:∃a c,v= .slice a k c:=by
     rcases hO2.2 with ⟨h,h'⟩ | ⟨g,cap,cur,h,_⟩
     · exact ⟨none,0,by rw [h,h']⟩
     · exact ⟨_,_,h⟩
    have hg0:=(HB.out.g _ (by rw [zao (show k<S.g.length by rw [<-HGL.out];exact hlt)];exact List.getElem_mem _):((0<=(S.g.getD k Rt.zero).b/\(S.g.getD k Rt.zero).b<=1152921504606846976)/\_));generalize (S.g.getD k Rt.zero).b=base at*;generalize (S.g.getD k Rt.zero).n=sn at*;generalize (S.g.getD k Rt.zero).z=sz at*
    have n1:¬(w.heap.size+1+1=b):=by omega
    have n2:¬(b=w.heap.size+1+1):=by omega
    have n3:¬(w.heap.size+1+1=w.heap.size):=by omega
    have n4:¬(w.heap.size=w.heap.size+1+1):=by omega
    have HOW:=zid ((zau hO2 ((Below.refl _ wr).alloc (Nat.le_refl _) (.cells #[.int .i64 base,.int .i64 sn,.int .i64 sz] 63))).alloc (.cells #[.int .i64 base] 3))
    have KP:=zid fun (w1:World) (hg1:((wr.alloc (.cells #[.int .i64 base,.int .i64 sn,.int .i64 sz] 63)).alloc (.cells #[.int .i64 base] 3)).grownBy w1 (Value.slice va k vc).ownBlock)=>(show w1.heap[w.heap.size]?=some (.cells #[fv,.int .i64 S.d.c,.bool S.d.a,.int .i64 S.d.l,.bool S.d.x,.int .i64 S.v,.slice (some ⟨b,off,none⟩) gn gc,.int .i64 S.x,.int .i64 S.s,.int .i64 S.z,.int .u32 S.c] 31 (0,0))/\w1.heap[w.heap.size+1]?=some (.cells #[.int .i64 0,.slice none 0 0,.int .i64 0,.int .u32 0] 76 (0,0))/\w1.heap[w.heap.size+1+1]?=some (.cells #[.int .i64 S.v,.slice va k vc,.int .i64 S.z,.int .u32 S.c] 76 (0,0))/\Below w.heap.size w w1 from
     ⟨zcg (halloc (halloc Q1.out)) (by decide) HOW.out hg1,zcg (halloc (halloc Q2.out)) (by decide) HOW.out hg1,zcg (halloc (halloc Q3.out)) (by decide) HOW.out hg1,
      ((QB.out.alloc QB.out.size _).alloc (by have:=QB.out.size;simp;omega) _).grown hg1 (by have:=QB.out.size;simp;omega) (fun r hr=>(World.ownsRow.lt HOW.out r hr).1)⟩)
    have HNEW:=zid (zar (wr.alloc (.cells #[.int .i64 base,.int .i64 sn,.int .i64 sz] 63)) (wr.heap.size+1) [.int .i64 base] 3 (by simp));have H1:=zid (show ∀u∈[Value.int .i64 base],u.oneCell'=true by simp [Value.oneCell']);have hwl:=(Array.getElem?_eq_some_iff.1 r3).1;obtain ⟨m0,m1,m2,m3⟩:=zcW r3;clear r1 r2 r3 hb hO2
    go_wp2_with (at_builtin;refine wpList_append_own _ rfl _ _ 74 rfl w.heap.size 3 i1 (.int .i64 0) 1 8 Tryz.underlying74 hj hy0 hy1 hy2 rfl (by decide) (.slice va k vc) k _ rfl HOW.out ⟨wr.heap.size+1,0,none⟩ 1 1 [.int .i64 base] rfl rfl HNEW.out H1.out (by unfold maxLen;omega) (by omega) (by simp;omega) ?_;intro v1 w1 ho1 hg1 hnil1;obtain ⟨q1,q2,q3,q4⟩:=KP.out w1 hg1;have q6:=(zab q1).2.2.1;obtain ⟨q7,q8,q9,q10⟩:=zcW q3;have q11:=Lib.frozen_of_heap q3 1;obtain ⟨ua,uc,rfl⟩:=zcl ho1)
    · have FIN:=zid (show OwnL Mfs.IL (w1.setCell ⟨w.heap.size+1+1,1,none⟩ (.slice ua (k+1) uc)) w.heap.size (.slice ua (k+1) uc) ((S.g.map (·.b)).take (k+1)) from by
       refine World.ownsRow.kept ?_ (zaG _ _ _ _) (.inr (zeh q3 (by decide) ho1).symm);rw [HT.out,Lay.vals_append,List.length_append,hlen]
       exact ho1)
      have G1:=zid ((Below.heap_setCell w1 ⟨w.heap.size+1+1,1,none⟩ (.slice ua (k+1) uc) w.heap.size (fun e=>n4 e)).trans q1);have G2:=zid ((Below.heap_setCell w1 ⟨w.heap.size+1+1,1,none⟩ (.slice ua (k+1) uc) (w.heap.size+1) (fun e=>by have e:w.heap.size+1=w.heap.size+1+1:=e;omega)).trans q2);have G3:=zid (heap_setCell_same _ _ 1 _ _ (.slice ua (k+1) uc) q3);have G4:=zid (q4.setCell (p:=⟨w.heap.size+1+1,1,none⟩) (by show w.heap.size<=w.heap.size+1+1;omega) (.slice ua (k+1) uc));clear q1 q2 q3 q4 q6 q7 q8 q9 q10 q11 ho1 hg1
      go_roundw
      case rel=>exact ⟨k+1,by omega,by go_num,_,FIN.out,G1.out,G2.out,G3.out,G4.out⟩
      case measure=>simp [intOf];omega
  · obtain rfl:k=gn:=by omega
    have HE:=zid (show (S.g.map (·.b)).take k=S.g.map (·.b) by rw [HGL.out, <-List.length_map (f:=(·.b)),List.take_length])
    rw [HE.out] at HO
    obtain ⟨va,vn,vc,rfl⟩:∃a n c,v= .slice a n c:=by obtain ⟨a,c,h⟩:=zcl HO.out;exact ⟨a,_,c,h⟩
    obtain ⟨m0,m1,m2,m3⟩:=zcW r3;obtain ⟨p0,p1,p2,p3⟩:=zcW r2;have fz:=fun o=>Lib.frozen_of_heap r2 o;have hwl:=(Array.getElem?_eq_some_iff.1 r3).1;clear r1 r2 r3 hb
    have W4:=zid fun (a:Value)=>(show ∃W,(((wr.setCell ⟨w.heap.size+1,0,none⟩ (.int .i64 S.v)).setCell ⟨w.heap.size+1,1,none⟩ a).setCell ⟨w.heap.size+1,2,none⟩ (.int .i64 S.z)).setCell ⟨w.heap.size+1,3,none⟩ (.int .u32 S.c)=W/\W.heap[w.heap.size+1]?=some (.cells #[.int .i64 S.v,a,.int .i64 S.z,.int .u32 S.c] 76 (0,0))/\Below w.heap.size w W/\OwnL Mfs.IL W w.heap.size (.slice va vn vc) (S.g.map (·.b)) from by
     have b0:=Q2.out;refine ⟨_,rfl,heap_setCell_same _ _ 3 _ _ _ (heap_setCell_same _ _ 2 _ _ _ (heap_setCell_same _ _ 1 _ _ _ (heap_setCell_same _ _ 0 _ _ _ b0))),(((QB.out.setCell (p:=⟨w.heap.size+1,0,none⟩) (Nat.le_succ _) _).setCell (p:=⟨w.heap.size+1,1,none⟩) (Nat.le_succ _) _).setCell (p:=⟨w.heap.size+1,2,none⟩) (Nat.le_succ _) _).setCell (p:=⟨w.heap.size+1,3,none⟩) (Nat.le_succ _) _,?_⟩;have ne:some (w.heap.size+1)≠(Value.slice va vn vc).ownBlock:=zeh b0 (by decide) HO.out
     exact World.ownsRow.kept (World.ownsRow.kept (World.ownsRow.kept (World.ownsRow.kept HO.out (zaG _ _ _ _) (.inr ne.symm)) (zaG _ _ _ _) (.inr ne.symm)) (zaG _ _ _ _) (.inr ne.symm)) (zaG _ _ _ _) (.inr ne.symm))
    go_wp2_with fail;obtain ⟨W,hW,hw1,hw2,hw3⟩:=W4.out (.slice va vn vc);rw [hW];obtain ⟨y0,y1,y2,y3⟩:=zcW hw1;refine bodyPost_ret (v:= .agg #[.int .i64 S.v,.slice va vn vc,.int .i64 S.z,.int .u32 S.c]) (by simp [results,Tryz.results69,go_sem,y0,y1,y2,y3]) rfl ?_;refine ⟨va,vn,vc,rfl,hw3.is (by rw [List.length_map, <-HGL.out];unfold maxLen;omega) fun y hy=>?_,hw2⟩;rw [List.mem_map] at hy;obtain ⟨g,hg',rfl⟩:=hy;have:=(HB.out.g g hg').1;exact ⟨by omega,by omega⟩
theorem seg_new (W:World) (x y z:Int) (hb:(-9223372036854775808<=x/\x<=9223372036854775807)/\(-9223372036854775808<=y/\y<=9223372036854775807)/\(-9223372036854775808<=z/\z<=9223372036854775807)):
 IsL Rts.SL (W.alloc (.cells #[.int .i64 x,.int .i64 y,.int .i64 z] 63)) (.slice (some ⟨W.heap.size,0,none⟩) 1 1) [⟨x,y,z⟩]:=by
 refine ⟨_,1,rfl,⟨(by decide:1<=maxLen),Nat.le_refl 1⟩,fun y' hy=>?_,.inr ⟨W.heap.size,0,rfl,fun j u hj=>?_⟩⟩
 · rw [List.mem_singleton] at hy
   subst hy
   exact hb
 · have:=zar W W.heap.size [.int .i64 x,.int .i64 y,.int .i64 z] 63 rfl j u hj
   rwa [zak] at this
end Sto
namespace Ro
open Go.RowKit So Dsk Rts Sto
section
variable {w W W':World} {fv0 v:Value} {D:Dp.Dk} {t t1:Nat} {xs:List (Nat×Obj)}
theorem Cw.bare {a:Option Addr} {n c:Nat} (h:Cw w fv0 t (.slice a n c) D t1 zS xs W):
 ∃Z,((((((((((W.setCell ⟨t1,0,none⟩ (.slice a n c)).setCell ⟨t1,1,none⟩ (.int .i64 D.c)).setCell ⟨t1,2,none⟩ (.bool D.a)).setCell ⟨t1,3,none⟩ (.int .i64 D.l)).setCell ⟨t1,4,none⟩ (.bool D.x)).setCell ⟨t1,5,none⟩ (.int .i64 0)).setCell ⟨t1,6,none⟩ (.slice none 0 0)).setCell ⟨t1,7,none⟩ (.int .i64 0)).setCell ⟨t1,8,none⟩ (.int .i64 0)).setCell ⟨t1,9,none⟩ (.int .i64 0)).setCell ⟨t1,10,none⟩ (.int .u32 0)=Z/\Z.heap[t1]?=some (sC (.slice a n c) (.slice none 0 0) (Lg.bare D))/\∀e:Int,zdW w fv0 (.slice none 0 0) (Lg.bare D,e) (.returned (.tuple #[zag (.slice a n c) (.slice none 0 0) (Lg.bare D),.int .i64 e])) Z:=by
 have M:=h.2.2.fresh (Below.refl _ _) (IsL.nil W none 0) (fun _ _=>Sep.nil _ _ _);obtain ⟨Z,h1,h2⟩:=M.lay11 (t:=t1) (cs':=[(t1,sC (.slice a n c) (.slice none 0 0) (Lg.bare D))]) (mcm mcs) (.slice a n c) (.int .i64 D.c) (.bool D.a) (.int .i64 D.l) (.bool D.x) (.int .i64 0) (.slice none 0 0) (.int .i64 0) (.int .i64 0) (.int .i64 0) (.int .u32 0) (fun p hp=> .inl (List.mem_singleton.1 hp));exact ⟨Z,h1,h2.at_ mcs,fun e=>⟨_,_,_,_,_,_,rfl,h2.sts (T:=Lg.bare D) mcs mcs⟩⟩
theorem Cw.put {T:St} {a a':Option Addr} {n c n' c':Nat} (h:Cw w fv0 t v D t1 zS xs W) (k:StS W v (.slice none 0 0) T (.slice a n c) (.slice a' n' c') W'):
 ∃Z,((((((((((W'.setCell ⟨t1,0,none⟩ (.slice a n c)).setCell ⟨t1,1,none⟩ (.int .i64 T.d.c)).setCell ⟨t1,2,none⟩ (.bool T.d.a)).setCell ⟨t1,3,none⟩ (.int .i64 T.d.l)).setCell ⟨t1,4,none⟩ (.bool T.d.x)).setCell ⟨t1,5,none⟩ (.int .i64 T.v)).setCell ⟨t1,6,none⟩ (.slice a' n' c')).setCell ⟨t1,7,none⟩ (.int .i64 T.x)).setCell ⟨t1,8,none⟩ (.int .i64 T.s)).setCell ⟨t1,9,none⟩ (.int .i64 T.z)).setCell ⟨t1,10,none⟩ (.int .u32 T.c)=Z/\Z.heap[t1]?=some (sC (.slice a n c) (.slice a' n' c') T)/\∀e:Int,zdW w fv0 (.slice none 0 0) (T,e) (.returned (.tuple #[zag (.slice a n c) (.slice a' n' c') T,.int .i64 e])) Z:=by
 have M:=(h.2.2.fresh (Below.refl _ _) (IsL.nil W none 0) (fun _ _=>Sep.nil _ _ _)).call2 mcs mcs k;obtain ⟨Z,h1,h2⟩:=M.lay11 (t:=t1) (cs':=[(t1,sC (.slice a n c) (.slice a' n' c') T)]) (mcm mcs) (.slice a n c) (.int .i64 T.d.c) (.bool T.d.a) (.int .i64 T.d.l) (.bool T.d.x) (.int .i64 T.v) (.slice a' n' c') (.int .i64 T.x) (.int .i64 T.s) (.int .i64 T.z) (.int .u32 T.c) (fun p hp=> .inl (List.mem_singleton.1 hp));exact ⟨Z,h1,h2.at_ mcs,fun e=>⟨_,_,_,_,_,_,rfl,h2.sts (T:=T) mcs mcs⟩⟩
end
theorem zi5 {D:Dp.Dk} {k:Nat} (hS:Bd D k) (hk:k<=100000) {s:List UInt8} {S:St} (h:Lg.toldT D s=some S):S.d=D/\S.g≠[]/\S.g.length<=64/\∀g∈S.g,(0<=g.b/\g.b<=1099511627776)/\0<=g.z/\g.z<=1000000000000:=by
 by_cases h1:(Qm.getM s).2≠0\/ ¬Lg.SnapOk D (Qm.getM s).1
 · rw [Lg.told_no h1] at h;cases h
 have h2:(Qm.getM s).2=0:=Classical.not_not.1 fun e=>h1 (.inl e);rw [Lg.told_go h2 (Classical.not_not.1 fun e=>h1 (.inr e))] at h;have hok:=Lg.getM_ok h2
 rcases hs:Lg.segA D (Qm.getM s).1.l with _ | gs
 · rw [hs] at h;cases h
 rw [hs,Option.map_some] at h;obtain rfl:=zge hs;have e:=Option.some.inj h;rw [<-e];refine ⟨rfl,fun e=>?_,by show (List.map _ _).length<=_;rw [List.length_map];exact hok.n1,fun g hg=>?_⟩
 · have:=hok.n0
   rw [List.map_eq_nil_iff.1 e] at this
   exact absurd this (by decide)
 · obtain ⟨b,hb,rfl⟩:=List.mem_map.1 hg
   obtain ⟨i,hi,rfl⟩:=List.getElem_of_mem hb
   have:=hok.at_ i hi;unfold Qm.AtOk at this;rw [zao hi] at this;refine ⟨⟨this.1,this.2.1⟩,Int.natCast_nonneg _,?_⟩;have h3:=(zd5 ((dat D (segN (Qm.getM s).1.l[i])).getD []) (Qm.getM s).1.l[i]).2
   have h4:((dat D (segN (Qm.getM s).1.l[i])).getD []).length<=Dp.used D.f:=by
    rcases zbx D (segN (Qm.getM s).1.l[i]) with ⟨h,_⟩ | ⟨s,h,_,h4⟩
    · rw [h];exact Nat.zero_le _
    · rw [h];exact h4
   have h5:=hS.u;show ((Gp.full _ _).2.1:Int)<=_;omega
end Ro
namespace Ro
open Go.RowKit So Dsk Sto
theorem zjV {D:Dp.Dk} {k:Nat} (h:Bd D k):Bd (zal D).1.d (k+6):=by
 unfold zal
 split
 · exact (zas h _).mono (by omega)
 · dsimp only
   have:=zb9 (zas h (segN 0)) (man ⟨(Dp.create D (segN 0)).1,1,[⟨0,0,0⟩],0,0,0,0⟩)
   split
   · exact this.mono (by omega)
   · exact this.mono (by omega)
theorem bd_endT {D:Dp.Dk} {k:Nat} (h:Bd D k) (n:ByteArray) (z:Nat) (hz:z<=9223372036854775807):Bd (Lg.endT D n z).1 (k+2):=by
 have h1:=zlM h n z hz;unfold Lg.endT
 split
 · exact h1.mono (by omega)
 · exact (zbs h1 n).mono (by omega)
theorem bd_openT {D:Dp.Dk} {k:Nat} (h:Bd D k) (hk:k<=100000):Bd (Lg.openT D).1.d (k+k+6):=by
 rw [Lg.openT_eq]
 split
 · exact h.mono (by omega)
 · rcases hd:dat D nm with _ | s
   · dsimp only
     unfold Lg.freshT
     split
     · exact (Lg.bd_sweep h []).mono (by omega)
     · exact zjV (Lg.bd_sweep h [])
   · dsimp only
     rcases ht:Lg.toldT D s with _ | S
     · exact h.mono (by omega)
     · obtain ⟨hd,hne,_,hall⟩:=zi5 h hk ht
       have hS:Bd S.d k:=by rw [hd];exact h
       have hs:Bd (Lg.settT S).1 (k+k+2):=by
        unfold Lg.settT
        split
        · exact (Lg.bd_sweep hS _).mono (by omega)
        · exact bd_endT (Lg.bd_sweep hS _) _ _ (by
           have hm:So.lastG S∈S.g:=by
            unfold So.lastG;have hp:=List.length_pos_iff.2 hne;rw [List.getD_eq_getElem?_getD,List.getElem?_eq_getElem (by omega)];exact List.getElem_mem _
           have:=(hall _ hm).2
           omega)
       dsimp only
       split
       · exact hs.mono (by omega)
       · exact hs.mono (by omega)
end Ro
end Go.Proofs.YtgmppfpllogdcaaGreat

/-
  Parts of what the laws of this seat stand on:InsCr,RoRsw,RoRsg.
-/
import Derived.Test.YtgmppfpllogdcaaGreatBi1
import Derived.BigQuiet
import Derived.Deep.RegionHeld3
import Derived.Test.YtgmppfpllogdcaaGreatBi13
import Derived.Test.YtgmppfpllogdcaaGreatBi21
import Derived.Test.YtgmppfpllogdcaaGreatBi22
import Derived.Test.YtgmppfpllogdcaaGreatBi24
import Derived.Test.YtgmppfpllogdcaaGreatBi25
import Derived.Test.YtgmppfpllogdcaaGreatBi40
import Derived.Test.YtgmppfpllogdcaaGreatBi46
set_option maxRecDepth 100000
set_option maxHeartbeats 6400000
namespace Go.Proofs.YtgmppfpllogdcaaGreat
namespace Ins
open Go.RowKit So Dsk Sto Trm
theorem sync15 {q:Int} {n k:Nat} {S:St} (h:G13 q n k S) (hc:S.d.c<=0):G13 q n (k+1) (zat S).1/\(zat S).1.d.c<=0/\((zat S).1.d.x=false->(zat S).1.s=(zat S).1.x):=by
 have hx:=h.x;have hv:=h.v;have hd:=h.d;obtain ⟨F,s0,rs,hL,hl⟩:=h.log;obtain ⟨h1,h2⟩:=hL.sync;refine ⟨⟨⟨F,s0,rs,h1,hl⟩,hx,by show S.v<=_;omega,?_⟩,?_,fun e=>?_⟩
 · exact (zbs hd _).mono (by omega)
 · have:=(Lg.via_sync S.d (segN (lastG S).b)).c
   show (Dp.sync S.d (segN (lastG S).b)).1.c<=0
   omega
 · rcases h2 with ⟨_,_,h2,_⟩ | ⟨_,h2,_⟩
   · exact h2
   · rw [h2] at e;cases e
theorem arm15 {q:Int} {n k:Nat} {S:St} (h:G13 q n k S) {i:Int} (hi:i<=9223372036854775807):G13 q n k {S with d:=Dp.arm S.d i}:=by
 have hx:=h.x;have hv:=h.v;have hd:=h.d;obtain ⟨F,s0,rs,hL,hl⟩:=h.log;exact ⟨⟨F,s0,rs,hL.arm i,hl⟩,hx,hv,Ro.bd_arm hd hi⟩
structure Crh (q:Int) (S:St) (at_:Int) (L:List UInt8) (E:Int) (Y:St):Prop where
 ne:Y.g≠[]
 b:Stb Y
 e:(E=1/\Y.x=S.s)\/(E≠1/\Y.x=at_/\∃l,Fp.parse L=some l/\Lg.stateT Y Y.x=l)\/(E=10/\Y.x=S.x/\Y.x≠at_/\Lg.stateT Y Y.x=Lg.stateT S S.x)
theorem crh {q:Int} {n k:Nat} {S:St} (h:G13 q n k S) (hq:0<=q/\q<=1000) (hk:k<=200) (hc:S.d.c<=0) (hs:S.s=S.x) {at_:Int} {L:List UInt8} (hL:L.length<=3000):
 (Lg.openT (Dp.crash (Lg.installT S at_ L).1.d [])).2=0/\Crh q S at_ L (Lg.installT S at_ L).2 (Lg.openT (Dp.crash (Lg.installT S at_ L).1.d [])).1:=by
 have hbx:Bd (Lg.openT (Dp.crash (Lg.installT S at_ L).1.d [])).1.d 300000:=(Ro.bd_openT (Ro.bd_crash (zcF h.d hL) []) (by have:=h.segs;omega)).mono (by have:=h.segs;omega);obtain ⟨F,s0,rs,hLg,_⟩:=h.log;have hv:=h.v
 have old:∀X:St,Lg.Log q X F s0 rs->X.s=S.x->(Lg.openT (Dp.crash X.d [])).2=0/\(∃F' s0' rs',Lg.Log q (Lg.openT (Dp.crash X.d [])).1 F' s0' rs')/\(Lg.openT (Dp.crash X.d [])).1.x=S.x/\Lg.stateT (Lg.openT (Dp.crash X.d [])).1 S.x=Lg.stateT S S.x:=by
  intro X hX hXs;obtain ⟨h1,m,hm,hms,hO,_⟩:=hX.sure [];have hx:=hLg.x
  have em:m=rs.length:=by omega
  subst em;rw [List.take_length] at hO;have hx2:=hO.x;refine ⟨h1,⟨_,_,_,hO⟩,by omega,?_⟩;have e1:=hO.state (k:=rs.length) (Nat.le_refl _);have e2:=hLg.state (k:=rs.length) (Nat.le_refl _);rw [<-hx] at e1 e2;rw [e1,e2]
 rcases zc3 hLg hq.1 (show S.v<1099511627776 by omega) (at_:=at_) (L:=L) with ⟨e,_⟩ | ⟨a1,a2,l,hp,hl,_,⟨h1,h2,h3⟩ | ⟨h1,h2,h3⟩⟩
 · rw [e] at hbx ⊢
   obtain ⟨o1,⟨_,_,_,o2⟩,o3,_⟩:=old S hLg hs
   exact ⟨o1,o2.ne,Ro.log_stb o2 hbx (by omega) hq.2,.inl ⟨rfl,o3.trans hs.symm⟩⟩
 · rcases h2 with ⟨_,_,h2,_⟩ | ⟨h2,_⟩
   · omega
   · obtain ⟨o1,⟨_,_,_,o2⟩,o3,o4⟩:=old _ h1 (by rw [h3];exact hs)
     exact ⟨o1,o2.ne,Ro.log_stb o2 hbx (by omega) hq.2,.inr (.inr ⟨h2,o3,by omega,by rw [o3];exact o4⟩)⟩
 · obtain ⟨o1,m,hm,_,hO,_⟩:=h1.sure []
   have hx:=hO.x
   have hm0:m=0:=by have:m<=([]:List Rp.Rec).length:=hm;simpa using this
   subst hm0
   have hx':(Lg.openT (Dp.crash (Lg.installT S at_ L).1.d [])).1.x=at_:=by simpa using hx
   have e:=hO.state (k:=0) (Nat.zero_le _)
   refine ⟨o1,hO.ne,Ro.log_stb hO hbx (by omega) hq.2,.inr (.inl ⟨by rcases h2 with h2 | ⟨h2,_⟩<;>omega,hx',l,hp,?_⟩)⟩
   rw [hx']
   simpa [Fp.fold] using e
theorem hv_of {w W:World} {b:Nat} {fv0 gv0:Value} {cs:List (Nat×Obj)} {fs:List (Value×List Dp.Fl)} {gs:List (Value×List Rt.Sg)} (h:Ms w b fv0 gv0 cs fs gs W) (hb:b=w.heap.size):Ro.Hv w cs fs gs W:=by
 subst hb;exact ⟨fun p hp=>(h.c p hp).2,fun p hp=>(h.f p hp).1,fun p hp=>(h.g p hp).1,h.w⟩
end Ins
namespace Ro
open Go.RowKit So Dsk Rts Sto
theorem Rw.keep {w W W':World} {fv0 lv v:Value} {P:World->Prop} {l U:List ByteArray} {R:Dp.Dk×Int} {k t1 j:Nat} {D:Dp.Dk} (h:Rw w fv0 lv P l U R k v D t1 j W) (b:Below W.heap.size W W') (hP:P W->P W'):Rw w fv0 lv P l U R k v D t1 j W':=
 ⟨h.c.keep b,h.i.keep b,hP h.s,h.b,h.e⟩
theorem zdN (fa:Option Addr) (fn fc:Nat) (D:Dp.Dk) (ua:Option Addr) (un uc:Nat) (U:List ByteArray) (w:World) (k:Nat) (hv:IsL FL w (.slice fa fn fc) D.f) (hS:Bd D k) (hk:k<=10000) (hm:IsL Dsk.SL w (.slice ua un uc) U) (hun:un<=10000):
 Calls Tryz.prog 51 #[zac (.slice fa fn fc) D,.slice ua un uc] w (zaL w (.slice fa fn fc) (Lg.sweep D U)):=by
 obtain ⟨l,hl⟩:∃l,D.f.map (·.n)=l:=⟨_,rfl⟩
 have hll:l.length<=10000:=by rw [<-hl,List.length_map];have:=hS.n;omega
 have NM:=zid fun (W:World) (h:IsL FL W (.slice fa fn fc) D.f)=>zjl (.slice fa fn fc) D W h (by have:=hS.n;omega);rw [hl] at NM;have HSW:=zid (show Lg.sweepT U D l=Lg.sweep D U by rw [<-hl];rfl);obtain ⟨R,hR⟩:∃R,Lg.sweep D U=R:=⟨_,rfl⟩;rw [hR] at HSW;rw [hR];have C0:=zid (Cw.start (w:=w) hv #[.slice none 0 0,.int .i64 0,.bool false,.int .i64 0,.bool false] 27);have HUP:=zid (IsL.sep_new hm (Nat.le_refl _));have HUL:=zid hm.len.1;have HS:=zid hS;have HM:=zid hm;unfold zac at NM;clear hv hR hl hS hm;unfold zac
 go_enter Tryz.func51,Tryz.ntmps51
 go_upto_region 1 with (fail);obtain ⟨w0,hw0⟩:∃w0,(w.alloc (.cells #[.slice fa fn fc,.int .i64 D.c,.bool D.a,.int .i64 D.l,.bool D.x] 27)).alloc (.cells #[.slice none 0 0,.int .i64 0,.bool false,.int .i64 0,.bool false] 27)=w0:=⟨_,rfl⟩;unfold dC at C0;rw [hw0] at C0 ⊢;have C0:=zid (show Cw w (.slice fa fn fc) w.heap.size (.slice fa fn fc) D (w.heap.size+1) dZ [] w0 from C0.out);have HM0:=zid (HM.out.keep C0.out.bw);clear hw0 HM;obtain ⟨p0,p1,p2,p3,p4⟩:=zaa C0.out.d;go_wp2_with fail;refine (NM.out _ C0.out.f).mono ?_;rintro e w1 ⟨lv,rfl,ho,b1⟩;have hol:IsL Dsk.SL w1 lv l:=ho.is (by unfold maxLen;omega) (fun _ _=>trivial);obtain ⟨la,lc,rfl,_⟩:=id hol;have HSP:=zid (zcP ho C0.out.lt);obtain ⟨ln,hln⟩:∃ln,l.length=ln:=⟨_,rfl⟩;rw [hln] at hll;have HLN:=zid hln;have HOL:=zid (show IsL Dsk.SL w1 (.slice la ln lc) l by rw [<-hln];exact hol);have C1:=zid (show Rw w (.slice fa fn fc) (.slice la ln lc) (fun W=>IsL Dsk.SL W (.slice ua un uc) U) l U R k (.slice fa fn fc) D (w.heap.size+1) 0 w1 from ⟨C0.out.keep b1,HOL.out,HM0.out.keep b1,HS.out,HSW.out⟩);rw [hln] at HSP ⊢;clear ho hol hln b1 C0 HM0 HS HSW NM p0 p1 p2 p3 p4 HOL;go_wp2_with fail
 go_loopw [7] (fun i wr=>∃j:Nat,j<=ln/\i= .int .i64 j/\∃a n c Dj,Hid (Rw w (.slice fa fn fc) (.slice la ln lc) (fun W=>IsL Dsk.SL W (.slice ua un uc) U) l U R k (.slice a n c) Dj (w.heap.size+1) j wr)) (fun i _=>ln-(intOf i).toNat)
 case atStart=>exact ⟨0,Nat.zero_le _,rfl,_,_,_,_,C1⟩
 case round=>
  clear C1;obtain ⟨j,hj,rfl,a,n,c,Dj,HR⟩:=hrel
  by_cases hlt:j<ln
  case neg=>
   have HF:=zid (show R=(Dj,0) by rw [<-HR.out.e,List.drop_of_length_le (by rw [HLN.out];omega)];rfl);obtain ⟨p0,p1,p2,p3,p4⟩:=zaa HR.out.c.d;obtain ⟨z0,z1,z2,z3,z4⟩:=zaa HR.out.c.r;obtain ⟨zf0,zf1,zf2,zf3,zf4⟩:=zad HR.out.c.r;go_wp2_with fail;obtain ⟨Y,hY,hr,hA⟩:=HR.out.c.ret;rw [hY];obtain ⟨x0,x1,x2,x3,x4⟩:=zaa hr;refine bodyPost_ret (v:= .tuple #[zac (.slice a n c) Dj,.int .i64 0]) (by unfold zac;simp [results,Tryz.results51,go_sem,x0,x1,x2,x3,x4]) rfl ?_;rw [HF.out];exact hA 0
  case pos=>
  obtain ⟨ab,ao,rfl,c0⟩:=sl_at HR.out.i hlt
  have hjl:j<l.length:=by rw [HLN.out];exact hlt
  have HD:=zid (show l.drop j=l.getD j ⟨#[]⟩::l.drop (j+1) by rw [zao hjl];exact List.drop_eq_getElem_cons hjl);generalize l.getD j ⟨#[]⟩=nn at c0 HD;clear hjl;go_wp2_with fail
  go_loopw [8,9] (fun kp i wi=>∃(m q:Nat) (bb:Bool),m<=un/\i= .int .i64 m/\kp= .bool bb/\(bb=true↔nn∈U.take m)/\wi=wr.drewN q) (fun _ i _=>un-(intOf i).toNat)
  case atStart=>exact ⟨0,0,false,Nat.zero_le _,rfl,rfl,by simp,rfl⟩
  case round=>
   obtain ⟨m,q,bb,hm,rfl,rfl,hbb,rfl⟩:=hrel
   by_cases hlt2:m<un
   case pos=>
    obtain ⟨b2,o2,rfl,c2⟩:=sl_at HR.out.s hlt2;have HT:=zid (zbv (l:=U) (k:=m) (z:=⟨#[]⟩) (by rw [<-HUL.out];exact hlt2));generalize U.getD m ⟨#[]⟩=un2 at c2 HT;have HBB:=zid hbb;clear hbb
    cases bb with
    | true=>
     go_wp2_with fail
     go_quiet (fail)
     go_wp2_with fail
     go_roundw
     case rel=>exact ⟨m+1,_,true,by omega,by go_num,rfl,⟨fun _=>by rw [HT.out];exact List.mem_append_left _ (HBB.out.1 (by first | rfl | trivial)),fun _=>rfl⟩,rfl⟩
     case measure=>simp [intOf];omega
    | false=>
     by_cases he:un2=nn
     · have heq:(un2.toList==nn.toList)=true:=by rw [he];simp
       have HE:=zid he
       clear he;go_wp2_with fail
       go_quiet (fail)
       go_wp2_with fail
       go_roundw
       case rel=>exact ⟨m+1,_,true,by omega,by go_num,by first | rfl | simp,⟨fun _=>by rw [HT.out,HE.out];simp,fun _=>rfl⟩,rfl⟩
       case measure=>simp [intOf];omega
     · have heq:=zki he
       have HE:=zid he
       clear he;go_wp2_with fail
       go_quiet (fail)
       go_wp2_with fail
       go_roundw
       case rel=>exact ⟨m+1,_,false,by omega,by go_num,by first | rfl | simp,⟨fun h=>(by cases h),fun h=>by
        rw [HT.out] at h
        rcases List.mem_append.1 h with h | h
        · exact absurd (HBB.out.2 h) (by decide)
        · exact absurd (List.mem_singleton.1 h).symm HE.out⟩,rfl⟩
       case measure=>simp [intOf];omega
   case neg=>
   obtain rfl:m=un:=by omega
   rw [List.take_of_length_le (by rw [HUL.out];exact Nat.le_refl _)] at hbb;have HR2:=zid (HR.out.keep (zae q) (fun h=>h.keep (zae q)));have c3:(wr.drewN q).cell? ⟨ab,ao+j,none⟩=some (.string nn):=c0;generalize wr.drewN q=w2 at HR2 c3 ⊢;clear c0 HR
   cases bb with
   | true=>
    have HN:=zid (show Lg.sweepT U Dj (l.drop (j+1))=R by rw [<-HR2.out.e,HD.out,Lg.sweepT_use (hbb.1 rfl)]);clear hbb HD;go_wp2_with fail
    go_roundw
    case rel=>exact ⟨j+1,by omega,by go_num,a,n,c,Dj,zid ⟨HR2.out.c,HR2.out.i,HR2.out.s,HR2.out.b.mono (by omega),HN.out⟩⟩
    case measure=>simp [intOf];omega
   | false=>
    have hu:nn∉U:=fun h=>absurd (hbb.2 h) (by decide);have HE:=zid (fun h:(Dp.delete Dj nn).2≠0=>show R=Dp.delete Dj nn by rw [<-HR2.out.e,HD.out,Lg.sweepT_err hu h]);have HN:=zid (fun h:(Dp.delete Dj nn).2=0=>show Lg.sweepT U (Dp.delete Dj nn).1 (l.drop (j+1))=R by rw [<-HR2.out.e,HD.out,Lg.sweepT_go hu h]);have HB:=zid (zam HR2.out.b nn);have DL:=fun (W:World) (h:IsL FL W (.slice a n c) Dj.f)=>zbe HR2.out.b (by omega) nn h;obtain ⟨⟨T,E⟩,hT⟩:∃X,Dp.delete Dj nn=X:=⟨_,rfl⟩;rw [hT] at HE HN HB DL;dsimp only at HE HN HB;unfold zac at DL;replace DL:=zid DL;clear hu hbb HD hT;obtain ⟨p0,p1,p2,p3,p4⟩:=zaa HR2.out.c.d;have hal:=block_lt_of_cell c3;have hbl:=HR2.out.c.lt;have HMS:=zid HR2.out.c.2.2;go_upto_region 11 with (fail)
    go_cut [10,11] (fun p v wc=>∃t:Nat,p= .pointer (some ⟨t,0,none⟩)/\v= .int .i64 E/\NwR w w.heap.size (.slice fa fn fc) (.slice none 0 0) [(w.heap.size,dC (.slice a n c) Dj),(w.heap.size+1,dZ)] [(.slice a n c,Dj.f)] [] T t wc/\Below w2.heap.size w2 wc)
    case first=>
     go_region_held3 (fun W=>(∀b o,b<w2.heap.size->W.cell? ⟨b,o,none⟩=w2.cell? ⟨b,o,none⟩)/\Below w2.heap.size w2 W) (first | with_reducible assumption | with_reducible exact KW.al5 (by assumption) | with_reducible exact KW.al (by assumption) | with_reducible exact KW.ad (KW.start _) | with_reducible exact KW.ad (by assumption) | with_reducible exact KW.dr _ | with_reducible exact KW.st5 (by assumption) (by assumption) | with_reducible exact KW.st5 (by assumption) (Nat.le_refl _) | with_reducible exact KW.keep (by assumption) (Below.refl _ _).drew | with_reducible exact KW.keep (by assumption) (by assumption)) (first | (go_at_call 34;refine (DL.out _ (HR2.out.c.f.keep (KW.bel (by assumption)))).mono ?_;rintro e w5 ⟨a5,n5,c5,rfl,k5'⟩;have q5:=k5'.w;have s5:=KW.keep (by assumption) q5;have q4:=KW.at (by assumption) q5;(first | (with_reducible have z5:=hkeep (zaI _ _ _) q5) | skip);(first | (have zc:=zaa z5;have zf:=zad z5;obtain ⟨y0,y1,y2,y3,y4⟩:=zc;obtain ⟨yf0,yf1,yf2,yf3,yf4⟩:=zf) | skip);unfold zac))
     all_goals
      rename_i hh
      have LB:=zid (KW.bel hh);clear hh;go_wp2_with fail;go_meet
      case rel=>
       first
        | (refine ⟨_,rfl,rfl,?_,LB.out⟩;with_reducible exact NwR.A HMS.out q4 k5')
        | (refine ⟨_,rfl,rfl,?_,LB.out⟩;with_reducible exact NwR.B HMS.out q4 k5' z5 (Nat.le_refl _) (by simp))
    case rest=>
    obtain ⟨t,rfl,rfl,⟨a5,n5,c5,hne,M5⟩,bw⟩:=hcut;have HK:=zid (And.intro (HR2.out.i.keep bw) (IsL.keep HR2.out.s bw));obtain ⟨q0,q1,q2,q3,q4⟩:=zaa (M5.at_ (t:=t) mcs);obtain ⟨y0,y1,y2,y3,y4⟩:=zaa (M5.at_ (t:=w.heap.size) (mcm mcs));obtain ⟨yf0,yf1,yf2,yf3,yf4⟩:=zad (M5.at_ (t:=w.heap.size) (mcm mcs))
    have LY:=zid (M5.lay5 (t:=w.heap.size) (cs':=[(w.heap.size,dC (.slice a5 n5 c5) T),(w.heap.size+1,dZ)]) (mcm mcs) (.slice a5 n5 c5) (.int .i64 T.c) (.bool T.a) (.int .i64 T.l) (.bool T.x) (fun r hr=>by
     simp only [List.mem_cons,List.not_mem_nil,or_false] at hr ⊢
     rcases hr with rfl | rfl
     · exact .inl rfl
     · exact .inr ⟨.inr (.inr rfl),by show w.heap.size+1≠w.heap.size;omega⟩))
    clear p0 p1 p2 p3 p4 hne M5 bw c3 hal DL HR2 HMS;go_upto_region 13 with (fail);obtain ⟨Z,hZ,MZ⟩:=LY.out;have gZ:=ze9 wc w.heap.size (.slice a5 n5 c5) (.int .i64 T.c) (.bool T.a) (.int .i64 T.l) (.bool T.x);rw [hZ] at gZ ⊢
    have HRZ:=zid (show IsL Dsk.SL Z _ l/\IsL Dsk.SL Z _ U from ⟨IsL.grown12 HK.out.1 gZ (fun q e=>by injection e with e;rw [<-e];exact HSP.out),IsL.grown12 HK.out.2 gZ (fun q e=>by injection e with e;rw [<-e];exact HUP.out)⟩)
    have HCZ:=zid (show Cw w (.slice fa fn fc) w.heap.size (.slice a5 n5 c5) T (w.heap.size+1) dZ [] Z from ⟨by omega,fun p hp=>absurd hp List.not_mem_nil,MZ.sub (fun _ h=>h) (fun p hp=>by rw [List.mem_singleton] at hp;rw [hp];exact mcs) (fun _ h=>h)⟩);clear hZ MZ gZ LY y0 y1 y2 y3 y4 yf0 yf1 yf2 yf3 yf4 q0 q1 q2 q3 q4 HK hbl
    by_cases hE:E=0
    · subst hE
      replace HN:=zid (HN.out rfl)
      clear HE;go_wp2_with fail
      go_roundw
      case rel=>exact ⟨j+1,by omega,by go_num,a5,n5,c5,T,zid ⟨HCZ.out,HRZ.out.1,HRZ.out.2,HB.out,HN.out⟩⟩
      case measure=>simp [intOf];omega
    · replace HE:=zid (HE.out hE)
      have hE':(E != 0)=true:=by simpa using hE
      obtain ⟨p0,p1,p2,p3,p4⟩:=zaa HCZ.out.d;obtain ⟨z0,z1,z2,z3,z4⟩:=zaa HCZ.out.r;obtain ⟨zf0,zf1,zf2,zf3,zf4⟩:=zad HCZ.out.r;clear HN;go_wp2_with fail;obtain ⟨Y,hY,hr,hA⟩:=HCZ.out.ret;rw [hY];obtain ⟨x0,x1,x2,x3,x4⟩:=zaa hr;refine bodyPost_ret (v:= .tuple #[zac (.slice a5 n5 c5) T,.int .i64 E]) (by unfold zac;simp [results,Tryz.results51,go_sem,x0,x1,x2,x3,x4]) rfl ?_;rw [HE.out];exact hA E
def zhb (w:World) (D:Dp.Dk) (l:List Int) (e:Ending) (w':World):Prop:=∃a n c,∃wh:Nat,e= .returned (.tuple #[.slice a n c,.int .i64 (wh:Int),.bool (Lg.segA D l).isSome])/\IsL Rts.SL w' (.slice a n c) ((Lg.segA D l).getD [])/\(∀j,j<w.heap.size->Sep (.slice a n c) j)/\Below w.heap.size w w'/\((Lg.segA D l).isSome=true->wh=Lg.lastW D l)
theorem zhb.no {w w':World} {D:Dp.Dk} {l:List Int} (h:Lg.segA D l=none) (b:Below w.heap.size w w'):zhb w D l (.returned (.tuple #[.slice none 0 0,.int .i64 0,.bool false])) w':=
 ⟨none,0,0,0,by rw [h];rfl,by rw [h];exact IsL.nil _ _ _,fun _ _=>Sep.nil _ _ _,b,fun e=>by rw [h] at e;cases e⟩
theorem zef (fa:Option Addr) (fn fc:Nat) (D:Dp.Dk) (ia:Option Addr) (ln ic:Nat) (m:Qm.Mn) (w:World) (k:Nat) (hv:IsL FL w (.slice fa fn fc) D.f) (hS:Bd D k) (hk:k<=100000) (hi:IsL Mfs.IL w (.slice ia ln ic) m.l) (hM:Qm.Ok m):
 Calls Tryz.prog 50 #[zac (.slice fa fn fc) D,Mfs.mnVal ia ln ic m] w (zhb w D m.l):=by
 obtain ⟨i0,hi0,hz0,hz1,hz2⟩:=info_parts zfF;obtain ⟨l,hlm⟩:∃l,m.l=l:=⟨_,rfl⟩;have hl0:=hM.n0;have hl1:=hM.n1
 have hb:∀b∈l,0<=b/\b<=1099511627776:=fun b hb=>by
  rw [<-hlm] at hb;obtain ⟨i,hi,rfl⟩:=List.getElem_of_mem hb;have:=hM.at_ i hi;unfold Qm.AtOk at this;rw [zao hi] at this;exact ⟨this.1,this.2.1⟩
 rw [hlm] at hi hl0 hl1 ⊢;have hln:=hi.len.1
 have hl:ln<=1000:=by omega
 have hlp:0<ln:=by omega
 have HU:=zid hS.u;have RD:=zid fun (W:World) (n:ByteArray) (h:IsL FL W (.slice fa fn fc) D.f)=>Dsk.rread_any (.slice fa fn fc) D n W h;have HV:=zid hv;have HI:=zid hi;have HB:=zid fun j (h:j<ln)=>hb (l.getD j 0) (by rw [zao (by omega)];exact List.getElem_mem _)
 have HSB:=zid (show ∀x∈l.map (Lg.segG D),Rts.SgB x from fun x hx=>by
  obtain ⟨b,hbm,rfl⟩:=List.mem_map.1 hx;have h1:=hb b hbm;have h2:=zd5 ((dat D (segN b)).getD []) b
  have h3:((dat D (segN b)).getD []).length<=Dp.used D.f:=by
   rcases zbx D (segN b) with ⟨h,_⟩ | ⟨s,h,_,h4⟩
   · rw [h];exact Nat.zero_le _
   · rw [h];exact h4
  have h4:=hS.u
  refine ⟨?_,?_,?_⟩<;>unfold Lg.segG<;>dsimp only<;>omega)
 have HLN:=zid hln
 have HT:=zid fun j (h:j<ln)=>(show (l.map (Lg.segG D)).take (j+1)=(l.map (Lg.segG D)).take j++[Lg.segG D (l.getD j 0)] by
  have hj:j<l.length:=by omega
  rw [List.take_succ_eq_append_getElem (by rw [List.length_map];exact hj),List.getElem_map,zao hj])
 have HTL:=zid fun j (h:j<=ln)=>(show ((l.map (Lg.segG D)).take j).length=j by rw [List.length_take,List.length_map];omega);obtain ⟨g0,g1,gb,gs⟩:=zay w #[.slice fa fn fc,.int .i64 D.c,.bool D.a,.int .i64 D.l,.bool D.x] #[.int .i64 m.v,.slice ia ln ic,.int .i64 m.z,.int .u32 m.c] 27 76;have G0:=zid g0;have G1:=zid g1;have B0:=zid gb;clear hv hS hi hb hln g0 g1 gb gs hM hl0 hl1 hlm;unfold zac at RD ⊢;unfold Mfs.mnVal
 go_enter Tryz.func50,Tryz.ntmps50
 go_wp2_with fail;generalize World.alloc (World.alloc w _) _=w0 at G0 G1 B0 ⊢;have hs0:=(Array.getElem?_eq_some_iff.1 G0.out).1;have hs1:=(Array.getElem?_eq_some_iff.1 G1.out).1
 go_loopw [7,8,9] (fun v wv i wr=>∃j wh:Nat,j<=ln/\i= .int .i64 j/\wv= .int .i64 wh/\Hid (OwnL Rts.SL wr w0.heap.size v ((l.map (Lg.segG D)).take j)/\Below w0.heap.size w0 wr/\(∀i,i<j->Lg.SegGood D l i)/\(0<j->wh=(Gp.full ((dat D (segN (l.getD (j-1) 0))).getD []) (l.getD (j-1) 0)).2.1))) (fun _ _ i _=>ln-(intOf i).toNat)
 case atStart=>exact ⟨0,0,Nat.zero_le _,rfl,rfl,zid ⟨by rw [List.take_zero];exact OwnL.nil _ _,Below.refl _ _,fun i h=>absurd h (Nat.not_lt_zero i),fun h=>absurd h (Nat.lt_irrefl 0)⟩⟩
 case round=>
  obtain ⟨j,wh,hj,rfl,rfl,HR⟩:=hrel;have HBW:=zid (B0.out.trans (HR.out.2.1.mono B0.out.size));obtain ⟨d0,d1,d2,d3,d4⟩:=zaa (hkeep G0.out HR.out.2.1);obtain ⟨q0,q1,q2,q3⟩:=Mfs.cells4 (hkeep G1.out HR.out.2.1);have hwl:w.heap.size<wr.heap.size:=Nat.lt_of_lt_of_le hs0 HR.out.2.1.size;have hwl1:w.heap.size+1<wr.heap.size:=Nat.lt_of_lt_of_le hs1 HR.out.2.1.size
  by_cases hlt:j<ln
  case neg=>
   obtain rfl:j=ln:=by omega
   have hO:=HR.out.1;rw [List.take_of_length_le (by rw [List.length_map,HLN.out];exact Nat.le_refl _)] at hO;have HY:=zid (Lg.segA_yes (D:=D) (l:=l) (by rw [<-HLN.out];exact HR.out.2.2.1));have HWH:=zid (show wh=Lg.lastW D l by rw [HR.out.2.2.2 hlp];unfold Lg.lastW;rw [<-HLN.out]);have HOO:=zid (zbd hO B0.out.size);obtain ⟨va,vc,rfl⟩:=own_slice hO;have HIS:=zid (hO.is (by rw [List.length_map, <-HLN.out];unfold maxLen;omega) HSB.out);have HSEP:=zid (show ∀t,t<w.heap.size->Sep _ t from fun t ht=>zcP HOO.out ht);clear hO HR;go_wp2_with fail;go_ret3;exact ⟨va,_,vc,wh,by rw [HY.out];rfl,by rw [HY.out];exact HIS.out,HSEP.out,HBW.out,fun _=>HWH.out⟩
  case pos=>
  obtain ⟨ab,ao,rfl,c0⟩:=Mfs.il_at (HI.out.keep HBW.out) hlt;have hbb:=HB.out j hlt;obtain ⟨j1,hj1⟩:∃j1,j+1=j1:=⟨_,rfl⟩;have hTj:=HT.out j hlt;rw [hj1] at hTj;obtain ⟨L1,hL1⟩:∃L1,(l.map (Lg.segG D)).take j1=L1:=⟨_,rfl⟩;rw [hL1] at hTj;have HL1:=zid hL1;have hTJ:=HTL.out j hj;have HJ:=zid (show l.getD (j1-1) 0=l.getD j 0 by rw [<-hj1,Nat.add_sub_cancel])
  have HC1:=zid fun h:j1<ln=>(show wr.cell? ⟨ab,ao+j1,none⟩=some (.int .i64 (l.getD j1 0)) by
   obtain ⟨b',o',e,c1⟩:=Mfs.il_at (HI.out.keep HBW.out) h
   injection e with e
   injection e with e1 e2
   subst e1 e2
   exact c1)
  have HGD:=zid (show Lg.SegGood D l j↔(dat D (segN (l.getD j 0))≠none/\(j1<ln->(Gp.full ((dat D (segN (l.getD j 0))).getD []) (l.getD j 0)).2.2=0/\l.getD j 0+((Gp.full ((dat D (segN (l.getD j 0))).getD []) (l.getD j 0)).1.length:Int)=l.getD j1 0)) by
   unfold Lg.SegGood
   rw [hj1, <-HLN.out])
  have HNO:=zid fun h:¬Lg.SegGood D l j=>Lg.segA_no (by rw [<-HLN.out];exact hlt) h
  have HGS:=zid fun h:Lg.SegGood D l j=>(show ∀i,i<j1->Lg.SegGood D l i from fun i hi=>by
   rcases Nat.lt_or_ge i j with h1 | h1
   · exact HR.out.2.2.1 i h1
   · rw [show i=j by omega];exact h)
  have HSG:=zid (show Rts.SL.enc (Lg.segG D (l.getD j 0))=[.int .i64 (l.getD j 0),.int .i64 ((Gp.full ((dat D (segN (l.getD j 0))).getD []) (l.getD j 0)).1.length:Nat),.int .i64 ((Gp.full ((dat D (segN (l.getD j 0))).getD []) (l.getD j 0)).2.1:Nat)] from rfl);have HOW:=zid HR.out.1;have hbl:=HR.out.2.1;have hbs:=hbl.size;have hal:=block_lt_of_cell c0;have HBL:=zid hbl
  have hw2:IntKind.i64.wrap ((j:Int)+1)=(j1:Int):=by rw [<-hj1];exact IntWalk.i64_in _ ⟨by omega,by omega⟩
  rw [<-HJ.out] at c0 hbb HGD HSG hTj;obtain ⟨b,hbe⟩:∃b,l.getD (j1-1) 0=b:=⟨_,rfl⟩;have HBE:=zid hbe;rw [hbe] at c0 hbb HGD HSG hTj;have HTj:=zid hTj;generalize (l.map (Lg.segG D)).take j=L0 at*;generalize l.getD j1 0=bn at*;have SN:=zid fun W:World=>zbq b W (by omega);have RB:=fun (W:World) (h:IsL FL W (.slice fa fn fc) D.f)=>RD.out W (segN b) h;clear HR hTj hL1 hbl hj hbe HJ
  rcases zbx D (segN b) with ⟨h1,h2⟩ | ⟨s,h1,h2,h3⟩
  case inl=>
   rw [h2] at RB;unfold segN at RB;replace RB:=zid RB;have HF:=zid (HNO.out fun h=>(HGD.out.1 h).1 h1);clear h1 h2 HNO HGD HGS HSG hw2 hTJ;go_upto_region 6 with (fail)
   go_region_held3 (fun W=>(∀b o,b<wr.heap.size->W.cell? ⟨b,o,none⟩=wr.cell? ⟨b,o,none⟩)/\Below wr.heap.size wr W) (first | with_reducible assumption | with_reducible exact KW.dr _ | with_reducible exact KW.keep (by assumption) (Below.refl _ _).drew | with_reducible exact KW.keep (by assumption) (by assumption)) (first | (go_at_call 35;refine (SN.out _).mono ?_;rintro e w5 ⟨rfl,q5⟩;have s5:=KW.keep (by assumption) q5) | (go_at_call 47;refine (RB.out _ (HV.out.keep (HBW.out.trans ((KW.bel (by assumption)).mono HBW.out.size)))).mono ?_;rintro e w5 ⟨rfl,q5⟩;have s5:=KW.keep (by assumption) q5))
   all_goals
    rename_i hh
    have LB:=zid (HBW.out.trans ((KW.bel hh).mono HBW.out.size));clear hh;go_wp2_with fail;go_ret3;exact zhb.no HF.out LB.out
  case inr=>
  rw [h2] at RB;unfold segN at RB;replace RB:=zid RB;have HDT:=zid h1;rw [h1,Option.getD_some] at HGD HSG
  have hs9:s.size<=4398046511104:=by have:=HU.out;omega
  have SC:=zid fun W:World=>zeR s b W hs9 (by omega) (by omega);have hfw:=zd5 s.data.toList b;have hsl:s.data.toList.length=s.size:=rfl;rw [hsl] at hfw;obtain ⟨F,hF⟩:∃F,Gp.full s.data.toList b=F:=⟨_,rfl⟩;have HFF:=zid hF;rw [hF] at SC HGD HSG hfw;obtain ⟨ps,kk,er⟩:=F;dsimp only at HGD HSG hfw;obtain ⟨pn,hpn⟩:∃pn,ps.length=pn:=⟨_,rfl⟩;have HPN:=zid (show (ps.map Prod.fst).length=pn by rw [List.length_map];exact hpn);rw [hpn] at HGD HSG hfw;have hw3:IntKind.i64.wrap (b+(pn:Int))=b+(pn:Int):=IntWalk.i64_in _ ⟨by omega,by omega⟩
  have HF:=zid fun (h:j1<ln) (h':er≠0\/b+(pn:Int)≠bn)=>HNO.out fun hg=>by
   obtain ⟨g1,g2⟩:=(HGD.out.1 hg).2 h
   rcases h' with h' | h'
   · exact h' g1
   · exact h' g2
  have HG:=zid fun (h:j1<ln->er=0/\b+(pn:Int)=bn)=>HGS.out (HGD.out.2 ⟨by simp,h⟩);clear h1 h2 h3 hpn HNO HGD HGS hfw hsl hF;go_upto_region 6 with (fail)
  go_cut [10,11] (fun v e wc=>v= .string s/\e= .int .i64 0/\Below wr.heap.size wr wc)
  case first=>
   clear hw2 hw3
   go_region_held3 (fun W=>(∀b o,b<wr.heap.size->W.cell? ⟨b,o,none⟩=wr.cell? ⟨b,o,none⟩)/\Below wr.heap.size wr W) (first | with_reducible assumption | with_reducible exact KW.dr _ | with_reducible exact KW.keep (by assumption) (Below.refl _ _).drew | with_reducible exact KW.keep (by assumption) (by assumption)) (first | (go_at_call 35;refine (SN.out _).mono ?_;rintro e w5 ⟨rfl,q5⟩;have s5:=KW.keep (by assumption) q5) | (go_at_call 47;refine (RB.out _ (HV.out.keep (HBW.out.trans ((KW.bel (by assumption)).mono HBW.out.size)))).mono ?_;rintro e w5 ⟨rfl,q5⟩;have s5:=KW.keep (by assumption) q5))
   all_goals
    rename_i hh
    have LB:=zid (KW.bel hh);clear hh;go_wp2_with fail;go_meet
    case rel=>exact ⟨rfl,rfl,LB.out⟩
  case rest=>
  obtain ⟨rfl,rfl,bc⟩:=hcut;have hb5:=bc.size;have c0':=(bc.cell (p:=⟨ab,ao+j,none⟩) hal).trans c0;obtain ⟨q0',q1',q2',q3'⟩:=Mfs.cells4 (hkeep G1.out (HBL.out.trans (bc.mono HBL.out.size)));clear c0 q0 q1 q2 q3 d0 d1 d2 d3 d4;go_wp2_with fail;refine (SC.out _).mono ?_;rintro e w5 ⟨rv,rfl,hrv,b5⟩;obtain ⟨ra,rc,rfl⟩:=zjt hrv;have bw5:=bc.trans (b5.mono hb5);rw [HPN.out];have HB5:=zid (HBW.out.trans (bw5.mono HBW.out.size));have HBL5:=zid (HBL.out.trans (bw5.mono hbs));have HO5:=zid (HOW.out.keep bw5);have hC1:=fun h:j1<ln=>(bw5.cell (p:=⟨ab,ao+j1,none⟩) hal).trans (HC1.out h);have c0:=(b5.cell (p:=⟨ab,ao+j,none⟩) (Nat.lt_of_lt_of_le hal hb5)).trans c0';obtain ⟨q0,q1,q2,q3⟩:=Mfs.cells4 (hkeep G1.out HBL5.out);clear hrv b5 bc bw5 c0' q0' q1' q2' q3' SC SN RB HC1;dsimp only
  obtain ⟨bd,hbd⟩:∃bd:Bool,bd=true↔ ¬(j1<ln->er=0/\b+(pn:Int)=bn):=by
   rcases Classical.em (j1<ln->er=0/\b+(pn:Int)=bn) with h | h
   · exact ⟨false,fun e=>(by cases e),fun h'=>absurd h h'⟩
   · exact ⟨true,fun _=>h,fun _=>rfl⟩
  have HBD:=zid hbd;go_upto_region 10 with (fail)
  go_cut [72] (fun v wc=>v= .bool bd/\∃nd,wc=w5.drewN nd)
  case first=>
   by_cases hlast:j1<ln
   case neg=>
    obtain rfl:bd=false:=by cases bd;rfl;exact absurd (fun h=>absurd h hlast) (hbd.1 rfl)
    have hd:decide ((j1:Int)<(ln:Int))=false:=by simp;omega
    clear hbd hC1
    go_quiet (fail)
    go_wp2_with fail;go_meet
    case rel=>exact ⟨rfl,_,rfl⟩
   case pos=>
   have hd:decide ((j1:Int)<(ln:Int))=true:=by simp;omega
   have hcell:=hC1 hlast
   by_cases he:er=0
   case neg=>
    obtain rfl:bd=true:=hbd.2 fun h=>he (h hlast).1
    have he':(er != 0)=true:=by simpa using he
    clear hbd hC1 hcell
    go_quiet (fail)
    go_wp2_with fail;go_meet
    case rel=>exact ⟨by first | rfl | simp,_,rfl⟩
   case pos=>
   subst he
   by_cases hq:b+(pn:Int)=bn
   case pos=>
    obtain rfl:bd=false:=by cases bd;rfl;exact absurd (fun _=>⟨rfl,hq⟩) (hbd.1 rfl)
    have hq':(b+(pn:Int) != bn)=false:=by simpa using hq
    clear hbd hC1 hq
    go_quiet (fail)
    go_wp2_with fail;go_meet
    case rel=>exact ⟨by first | rfl | simp,_,rfl⟩
   case neg=>
    obtain rfl:bd=true:=hbd.2 fun h=>hq (h hlast).2
    have hq':(b+(pn:Int) != bn)=true:=by simpa using hq
    clear hbd hC1 hq
    go_quiet (fail)
    go_wp2_with fail;go_meet
    case rel=>exact ⟨by first | rfl | simp,_,rfl⟩
  case rest=>
  obtain ⟨rfl,nd,rfl⟩:=hcut;have B6:Below w5.heap.size w5 (w5.drewN nd):=zae nd;have c6:(w5.drewN nd).cell? ⟨ab,ao+j,none⟩=some (.int .i64 b):=(B6.cell (p:=⟨ab,ao+j,none⟩) (block_lt_of_cell c0)).trans c0;have G6:=Mfs.cells4 (hkeep (hkeep G1.out HBL5.out) B6);have HB6:=zid (HB5.out.trans (B6.mono HB5.out.size));have HBL6:=zid (HBL5.out.trans (B6.mono HBL5.out.size));have HO6:=zid (HO5.out.keep B6);clear c0 q0 q1 q2 q3 B6 hC1 HB5 HBL5 HO5;obtain ⟨q0,q1,q2,q3⟩:=G6;generalize w5.drewN nd=w6 at*
  cases bd with
  | true=>
   have HFF2:=zid (show Lg.segA D l=none from by
    have h:=HBD.out.1 (by first | rfl | trivial);have hlast:j1<ln:=Classical.byContradiction fun h'=>h fun h''=>absurd h'' h';refine HF.out hlast ?_
    rcases Classical.em (er=0) with h1 | h1
    · exact .inr fun h2=>h fun _=>⟨h1,h2⟩
    · exact .inl h1)
   clear HF HG HBD HSG HTj HOW HO6 hbd;go_wp2_with fail;go_ret3;exact zhb.no HFF2.out HB6.out
  | false=>
  have hgood:j1<ln->er=0/\b+(pn:Int)=bn:=Classical.byContradiction fun h=>by
   have:=HBD.out.2 h
   first | cases this | exact this
  replace HG:=zid (HG.out hgood);have hO6:=HO6.out;unfold OwnL at hO6;rw [hTJ] at hO6;have HOX:=zid (show (w6.alloc (.cells [Value.int .i64 b,.int .i64 (pn:Int),.int .i64 (kk:Int)].toArray 63)).ownsRow w0.heap.size 63 3 u7 j (Rts.SL.vals L0) from hO6.alloc _);have HNEW:=zid (zar w6 w6.heap.size [Value.int .i64 b,.int .i64 (pn:Int),.int .i64 (kk:Int)] 63 rfl);have HLT:=zid fun k' (h:_)=>HO6.out.lt k' h;have HBX:=zid (HBL6.out.alloc HBL6.out.size (.cells [Value.int .i64 b,.int .i64 (pn:Int),.int .i64 (kk:Int)].toArray 63))
  have HSN:=zid fun (v':Value) (w3:World) (h:w3.ownsRow w0.heap.size 63 3 v' (j+1) (Rts.SL.vals L0++[Value.int .i64 b,.int .i64 (pn:Int),.int .i64 (kk:Int)]))=>(show OwnL Rts.SL w3 w0.heap.size v' L1 by
   rw [HTj.out]
   exact OwnL.snoc (n:=L0.length) (by rw [hTJ];exact h) HSG.out.symm rfl)
  have hs6:=HBL6.out.size;clear HF hO6 HSG HTj HOW HO6 hgood HBD hbd
  go_wp2_with (at_builtin;refine wpList_append_own _ rfl _ _ 28 rfl w0.heap.size 63 i0 (.agg #[.int .i64 0,.int .i64 0,.int .i64 0]) 3 24 Tryz.underlying28 hi0 hz0 hz1 hz2 rfl (by decide) _ _ _ rfl HOX.out ⟨w6.heap.size,0,none⟩ 1 1 [.int .i64 b,.int .i64 (pn:Int),.int .i64 (kk:Int)] (by simp [go_sem]) rfl HNEW.out (by simp [Value.oneCell']) (by unfold maxLen;omega) (by omega) (by simp;omega) ?_;intro v' w3 hown' hgrow3 hnil3)
  go_roundw
  case rel=>exact ⟨j1,kk,by omega,rfl,rfl,zid ⟨by rw [HL1.out];exact HSN.out v' w3 hown',HBX.out.grown hgrow3 (by simp;omega) (fun q hq=>(HLT.out q hq).1),HG.out,fun _=>by rw [HBE.out,HDT.out,Option.getD_some,HFF.out]⟩⟩
  case measure=>simp [intOf];omega
end Ro
end Go.Proofs.YtgmppfpllogdcaaGreat

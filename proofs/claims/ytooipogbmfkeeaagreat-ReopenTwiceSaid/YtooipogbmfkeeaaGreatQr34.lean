/-
  Parts of what the laws of this seat stand on:RoCl,SegIter.
-/
import Derived.Test.YtooipogbmfkeeaaGreatQr1
import Derived.Deep.DeepCutAuto
import Derived.LoopIn
import Derived.LoopNIn
import Derived.OwnWalkIn
import Derived.RangeFuncBound
import Derived.RangeFuncCalls
import Derived.RangeFuncLeaves
import Derived.RangeFuncNested
import Derived.Shelf.Abstract
import Derived.Shelf.RegionOpen
import Derived.TacticsInMore
import Derived.Test.YtooipogbmfkeeaaGreatQr16
import Derived.Test.YtooipogbmfkeeaaGreatQr23
import Derived.Test.YtooipogbmfkeeaaGreatQr24
import Derived.Test.YtooipogbmfkeeaaGreatQr31
import Derived.Test.YtooipogbmfkeeaaGreatQr32
import Derived.Test.YtooipogbmfkeeaaGreatQr33
import Derived.WalkKit
set_option maxRecDepth 100000
set_option maxHeartbeats 6400000
namespace Go.Proofs.YtooipogbmfkeeaaGreat
namespace Ro
open Go.RowKit So Dsk Rts Sto
def dC (v:Value) (D:Dp.Dk):Obj:= .cells #[v,.int .i64 D.c,.bool D.a,.int .i64 D.l,.bool D.x] 24
def dZ:Obj:= .cells #[.slice none 0 0,.int .i64 0,.bool false,.int .i64 0,.bool false] 24
def Cw (w:World) (fv0:Value) (t:Nat) (v:Value) (D:Dp.Dk) (t1:Nat) (o1:Obj) (xs:List (Nat×Obj)) (W:World):Prop:=
 t1≠t/\(∀p∈xs,p.1≠t/\p.1≠t1)/\Ms w w.heap.size fv0 (.slice none 0 0) ((t,dC v D)::(t1,o1)::xs) [(v,D.f)] [] W
section
variable {w W W':World} {fv0 v:Value} {D D':Dp.Dk} {t t1:Nat} {o1:Obj} {xs:List (Nat×Obj)}
theorem Cw.start {fv:Value} (hv:IsL FL w fv D.f) (A:Array Value) (T:TypeId):Cw w fv w.heap.size fv D (w.heap.size+1) (.cells A T) [] ((w.alloc (dC fv D)).alloc (.cells A T)):=by
 have M:=((Ms.start (gv:= .slice none 0 0) (lg:=[]) hv (IsL.nil w none 0)).alloc #[fv,.int .i64 D.c,.bool D.a,.int .i64 D.l,.bool D.x] 24).alloc A T;rw [World.size_alloc] at M;refine ⟨by omega,fun p hp=>absurd hp List.not_mem_nil,M.sub (fun p hp=>?_) (fun p hp=>hp) (fun p hp=>absurd hp List.not_mem_nil)⟩;simp only [List.mem_cons,List.not_mem_nil,or_false] at hp ⊢
 rcases hp with hp | hp
 · exact .inr hp
 · exact .inl hp
theorem Cw.keep (h:Cw w fv0 t v D t1 o1 xs W) (k:Below W.heap.size W W'):Cw w fv0 t v D t1 o1 xs W':=⟨h.1,h.2.1,h.2.2.keep k⟩
theorem Cw.d (h:Cw w fv0 t v D t1 o1 xs W):W.heap[t]?=some (dC v D):=h.2.2.at_ mcs
theorem Cw.r (h:Cw w fv0 t v D t1 o1 xs W):W.heap[t1]?=some o1:=h.2.2.at_ (mcm mcs)
theorem Cw.x (h:Cw w fv0 t v D t1 o1 xs W) {p:Nat×Obj} (hp:p∈xs):W.heap[p.1]?=some p.2:=h.2.2.at_ (mcm (mcm hp))
theorem Cw.f (h:Cw w fv0 t v D t1 o1 xs W):IsL FL W v D.f:=h.2.2.fl mcs
theorem Cw.bw (h:Cw w fv0 t v D t1 o1 xs W):Below w.heap.size w W:=h.2.2.w
theorem Cw.lt (h:Cw w fv0 t v D t1 o1 xs W):t<W.heap.size:=h.2.2.lt mcs
theorem Cw.rlt (h:Cw w fv0 t v D t1 o1 xs W):t1<W.heap.size:=h.2.2.lt (mcm mcs)
theorem Cw.lay (h:Cw w fv0 t v D t1 o1 xs W) {a:Option Addr} {n c:Nat} (k:DkS W v D' (.slice a n c) W'):
 ∃Z,((((W'.setCell ⟨t,0,none⟩ (.slice a n c)).setCell ⟨t,1,none⟩ (.int .i64 D'.c)).setCell ⟨t,2,none⟩ (.bool D'.a)).setCell ⟨t,3,none⟩ (.int .i64 D'.l)).setCell ⟨t,4,none⟩ (.bool D'.x)=Z/\Cw w fv0 t (.slice a n c) D' t1 o1 xs Z/\W'.grownBy Z (some t):=by
 obtain ⟨Z,h1,h2⟩:=(h.2.2.call mcs k).lay5 (t:=t) (cs':=(t,dC (.slice a n c) D')::(t1,o1)::xs) mcs (.slice a n c) (.int .i64 D'.c) (.bool D'.a) (.int .i64 D'.l) (.bool D'.x) (fun q hq=>by
  rcases List.mem_cons.1 hq with rfl | hq
  · exact .inl rfl
  · refine .inr ⟨mcm hq,?_⟩
    rcases List.mem_cons.1 hq with rfl | hq
    · exact h.1
    · exact (h.2.1 q hq).1)
 refine ⟨Z,h1,⟨h.1,h.2.1,h2.sub (fun _ h=>h) (fun p hp=>by rw [List.mem_singleton] at hp;rw [hp];exact mcs) (fun _ h=>h)⟩,?_⟩;rw [<-h1];exact zfm _ _ _ _ _ _ _
theorem Cw.fin (h:Cw w fv0 t v D t1 dZ xs W) {a:Option Addr} {n c:Nat} (k:DkS W v D' (.slice a n c) W'):
 ∃Z,((((W'.setCell ⟨t1,0,none⟩ (.slice a n c)).setCell ⟨t1,1,none⟩ (.int .i64 D'.c)).setCell ⟨t1,2,none⟩ (.bool D'.a)).setCell ⟨t1,3,none⟩ (.int .i64 D'.l)).setCell ⟨t1,4,none⟩ (.bool D'.x)=Z/\Z.heap[t1]?=some (dC (.slice a n c) D')/\∀e:Int,za2 w fv0 (D',e) (.returned (.tuple #[zac (.slice a n c) D',.int .i64 e])) Z:=by
 obtain ⟨Z,h1,h2⟩:=(h.2.2.call mcs k).lay5 (t:=t1) (cs':=[(t1,dC (.slice a n c) D')]) (mcm mcs) (.slice a n c) (.int .i64 D'.c) (.bool D'.a) (.int .i64 D'.l) (.bool D'.x) (fun p hp=> .inl (List.mem_singleton.1 hp));exact ⟨Z,h1,h2.at_ mcs,fun e=>⟨a,n,c,rfl,h2.dks mcs⟩⟩
theorem Cw.ret {a:Option Addr} {n c:Nat} (h:Cw w fv0 t (.slice a n c) D t1 dZ xs W):
 ∃Z,((((W.setCell ⟨t1,0,none⟩ (.slice a n c)).setCell ⟨t1,1,none⟩ (.int .i64 D.c)).setCell ⟨t1,2,none⟩ (.bool D.a)).setCell ⟨t1,3,none⟩ (.int .i64 D.l)).setCell ⟨t1,4,none⟩ (.bool D.x)=Z/\Z.heap[t1]?=some (dC (.slice a n c) D)/\∀e:Int,za2 w fv0 (D,e) (.returned (.tuple #[zac (.slice a n c) D,.int .i64 e])) Z:=
 h.fin ⟨h.f,fun _ _ h=>h,Below.refl _ _⟩
end
def NwR (w:World) (b:Nat) (fv0 gv0:Value) (cs:List (Nat×Obj)) (fs:List (Value×List Dp.Fl)) (gs:List (Value×List Rt.Sg)) (D:Dp.Dk) (t:Nat) (W:World):Prop:=∃a n c,(∀p∈cs,p.1≠t)/\Ms w b fv0 gv0 ((t,dC (.slice a n c) D)::cs) ((.slice a n c,D.f)::fs) gs W
section
variable {w w0 Wc W5:World} {b:Nat} {fv gv v0:Value} {cs:List (Nat×Obj)} {fs:List (Value×List Dp.Fl)} {gs:List (Value×List Rt.Sg)} {l:List Dp.Fl} {D:Dp.Dk} {a:Option Addr} {n c:Nat}
theorem NwR.A (M:Ms w b v0 gv cs ((fv,l)::fs) gs w0) (q:Below w0.heap.size w0 Wc) (k:DkS Wc fv D (.slice a n c) W5):NwR w b v0 gv cs ((fv,l)::fs) gs D W5.heap.size (W5.alloc (.cells #[.slice a n c,.int .i64 D.c,.bool D.a,.int .i64 D.l,.bool D.x] 24)):=by
 have M2:=(M.keep q).call mcs k;exact ⟨a,n,c,fun p hp e=>by have:=M2.lt (t:=p.1) (o:=p.2) hp;omega,M2.alloc _ _⟩
theorem NwR.B (M:Ms w b v0 gv cs ((fv,l)::fs) gs w0) (q:Below w0.heap.size w0 Wc) (k:DkS Wc fv D (.slice a n c) W5) {t:Nat} {x0 x1 x2 x3 x4:Value} (hz:W5.heap[t]?=some (.cells #[x0,x1,x2,x3,x4] 24 (0,0))) (h4:w0.heap.size<=t) (h5:t<Wc.heap.size):
 NwR w b v0 gv cs ((fv,l)::fs) gs D t (((((W5.setCell ⟨t,0,none⟩ (.slice a n c)).setCell ⟨t,1,none⟩ (.int .i64 D.c)).setCell ⟨t,2,none⟩ (.bool D.a)).setCell ⟨t,3,none⟩ (.int .i64 D.l)).setCell ⟨t,4,none⟩ (.bool D.x)):=by
 have M2:=(M.keep q).call mcs k
 have hne:∀p∈cs,p.1≠t:=fun p hp e=>by have:=M.lt (t:=p.1) (o:=p.2) hp;omega
 have M3:Ms w b v0 gv ((t,.cells #[x0,x1,x2,x3,x4] 24)::cs) ((.slice a n c,D.f)::(fv,l)::fs) gs W5:=by
  refine ⟨fun p hp=>?_,fun p hp=>⟨(M2.f p hp).1,fun r hr=>?_,(M2.f p hp).2.2⟩,fun p hp=>⟨(M2.g p hp).1,fun r hr=>?_,(M2.g p hp).2.2⟩,M2.le,M2.w⟩
  · rcases List.mem_cons.1 hp with rfl | hp
    · exact ⟨by have:=M.le;show b<=t;omega,hz⟩
    · exact M2.c p hp
  · rcases List.mem_cons.1 hr with rfl | hr
    · rcases List.mem_cons.1 hp with rfl | hp
      · exact k.s t h5 (IsL.sep_new (M.fl mcs) h4)
      · exact IsL.sep_new (M.f p hp).1 h4
    · exact (M2.f p hp).2.1 r hr
  · rcases List.mem_cons.1 hr with rfl | hr
    · exact IsL.sep_new (M.g p hp).1 h4
    · exact (M2.g p hp).2.1 r hr
 obtain ⟨Z,hZ,M4⟩:=M3.lay5 (t:=t) (cs':=(t,dC (.slice a n c) D)::cs) mcs (.slice a n c) (.int .i64 D.c) (.bool D.a) (.int .i64 D.l) (.bool D.x) (fun r hr=>by
  rcases List.mem_cons.1 hr with rfl | hr
  · exact .inl rfl
  · exact .inr ⟨mcm hr,hne r hr⟩)
 rw [hZ];exact ⟨a,n,c,hne,M4⟩
end
structure Rw (w:World) (fv0 lv:Value) (P:World->Prop) (l U:List ByteArray) (R:Dp.Dk×Int) (k:Nat) (v:Value) (D:Dp.Dk) (t1 j:Nat) (W:World):Prop where
 c:Cw w fv0 w.heap.size v D t1 dZ [] W
 i:IsL Dsk.SL W lv l
 s:P W
 b:Bd D (k+j)
 e:Lg.sweepT U D (l.drop j)=R
theorem zdK (fa:Option Addr) (fn fc:Nat) (D:Dp.Dk) (mv:Value) (U:List ByteArray) (w:World) (k:Nat) (hv:IsL FL w (.slice fa fn fc) D.f) (hS:Bd D k) (hk:k<=10000) (hm:zcK w mv U):
 Calls Tryz.prog 48 #[zac (.slice fa fn fc) D,mv] w (za2 w (.slice fa fn fc) (Lg.sweep D U)):=by
 obtain ⟨l,hl⟩:∃l,D.f.map (·.n)=l:=⟨_,rfl⟩
 have hll:l.length<=10000:=by rw [<-hl,List.length_map];have:=hS.n;omega
 have hsz:∀n∈l,n.size<=32:=fun n hn=>by
  rw [<-hl] at hn;obtain ⟨f,hf,rfl⟩:=List.mem_map.1 hn;exact (hS.r.1 f hf).1.2
 have NM:=zid fun (W:World) (h:IsL FL W (.slice fa fn fc) D.f)=>zlf (.slice fa fn fc) D W h (by have:=hS.n;omega);rw [hl] at NM;have HSW:=zid (show Lg.sweepT U D l=Lg.sweep D U by rw [<-hl];rfl);obtain ⟨R,hR⟩:∃R,Lg.sweep D U=R:=⟨_,rfl⟩;rw [hR] at HSW;rw [hR];have C0:=zid (Cw.start (w:=w) hv #[.slice none 0 0,.int .i64 0,.bool false,.int .i64 0,.bool false] 24);have HSZ:=zid hsz;have HML:=zid fun b (e:mv= .map (some b))=>(show b≠w.heap.size by have:=hm.lt b e;omega);have HS:=zid hS;have HM:=zid hm;unfold zac at NM;clear hv hR hl hsz hS hm;unfold zac
 go_enter Tryz.func48,Tryz.ntmps48
 go_upto_region 1 with (fail);obtain ⟨w0,hw0⟩:∃w0,(w.alloc (.cells #[.slice fa fn fc,.int .i64 D.c,.bool D.a,.int .i64 D.l,.bool D.x] 24)).alloc (.cells #[.slice none 0 0,.int .i64 0,.bool false,.int .i64 0,.bool false] 24)=w0:=⟨_,rfl⟩;unfold dC at C0;rw [hw0] at C0 ⊢;have C0:=zid (show Cw w (.slice fa fn fc) w.heap.size (.slice fa fn fc) D (w.heap.size+1) dZ [] w0 from C0.out);have HM0:=zid (HM.out.keep C0.out.bw);clear hw0 HM;obtain ⟨p0,p1,p2,p3,p4⟩:=zaa C0.out.d;go_wp2_with fail;refine (NM.out _ C0.out.f).mono ?_;rintro e w1 ⟨lv,rfl,ho,b1⟩;have hol:IsL Dsk.SL w1 lv l:=ho.is (by unfold maxLen;omega) (fun _ _=>trivial);obtain ⟨la,lc,rfl,_⟩:=id hol;have HSP:=zid (za7 ho C0.out.lt);obtain ⟨ln,hln⟩:∃ln,l.length=ln:=⟨_,rfl⟩;rw [hln] at hll;have HLN:=zid hln;have HOL:=zid (show IsL Dsk.SL w1 (.slice la ln lc) l by rw [<-hln];exact hol);have C1:=zid (show Rw w (.slice fa fn fc) (.slice la ln lc) (fun W=>zcK W mv U) l U R k (.slice fa fn fc) D (w.heap.size+1) 0 w1 from ⟨C0.out.keep b1,HOL.out,HM0.out.keep b1,HS.out,HSW.out⟩);rw [hln] at HSP ⊢;clear ho hol hln b1 C0 HM0 HS HSW NM p0 p1 p2 p3 p4 HOL;go_wp2_with fail
 go_loopw [12] (fun i wr=>∃j:Nat,j<=ln/\i= .int .i64 j/\∃a n c Dj,Hid (Rw w (.slice fa fn fc) (.slice la ln lc) (fun W=>zcK W mv U) l U R k (.slice a n c) Dj (w.heap.size+1) j wr)) (fun i _=>ln-(intOf i).toNat)
 case atStart=>exact ⟨0,Nat.zero_le _,rfl,_,_,_,_,C1⟩
 case round=>
  clear C1;obtain ⟨j,hj,rfl,a,n,c,Dj,HR⟩:=hrel;obtain ⟨p0,p1,p2,p3,p4⟩:=zaa HR.out.c.d
  by_cases hlt:j<ln
  · obtain ⟨ab,ao,rfl,c0⟩:=sl_at HR.out.i hlt
    have hjl:j<l.length:=by rw [HLN.out];exact hlt
    have hns:=HSZ.out (l.getD j ⟨#[]⟩) (by rw [zao hjl];exact List.getElem_mem _);have HD:=zid (show l.drop j=l.getD j ⟨#[]⟩::l.drop (j+1) by rw [zao hjl];exact List.drop_eq_getElem_cons hjl);generalize l.getD j ⟨#[]⟩=nn at c0 hns HD
    have hml:nn.size<=maxLen:=by unfold maxLen;omega
    by_cases hu:nn∈U
    · have HN:=zid (show Lg.sweepT U Dj (l.drop (j+1))=R by rw [<-HR.out.e,HD.out,Lg.sweepT_use hu])
      have hlk:=HR.out.s.yes hml hu
      clear hu HD hjl hml;go_wp2_with fail
      go_roundw
      case rel=>exact ⟨j+1,by omega,by go_num,a,n,c,Dj,zid ⟨HR.out.c,HR.out.i,HR.out.s,HR.out.b.mono (by omega),HN.out⟩⟩
      case measure=>simp [intOf];omega
    · have HE:=zid (fun h:(Dp.delete Dj nn).2≠0=>show R=Dp.delete Dj nn by rw [<-HR.out.e,HD.out,Lg.sweepT_err hu h])
      have HN:=zid (fun h:(Dp.delete Dj nn).2=0=>show Lg.sweepT U (Dp.delete Dj nn).1 (l.drop (j+1))=R by rw [<-HR.out.e,HD.out,Lg.sweepT_go hu h])
      have HB:=zid (zaB HR.out.b nn);have DL:=fun (W:World) (h:IsL FL W (.slice a n c) Dj.f)=>zgb HR.out.b (by omega) nn h;obtain ⟨⟨T,E⟩,hT⟩:∃X,Dp.delete Dj nn=X:=⟨_,rfl⟩;rw [hT] at HE HN HB DL;dsimp only at HE HN HB;unfold zac at DL;replace DL:=zid DL;have hlk:=HR.out.s.no hml hu;clear hu HD hT hjl hml;go_wp2_with fail;refine (DL.out _ HR.out.c.f).mono ?_;rintro e w5 ⟨b5,n5,c5,rfl,ks⟩;have HK:=zid (And.intro (HR.out.i.keep ks.w) (HR.out.s.keep ks.w));obtain ⟨y0,y1,y2,y3,y4⟩:=zaa (hkeep HR.out.c.d ks.w);obtain ⟨yf0,yf1,yf2,yf3,yf4⟩:=zae (hkeep HR.out.c.d ks.w);have LY:=zid (HR.out.c.lay ks);clear p0 p1 p2 p3 p4 ks DL hlk c0;unfold zac;go_upto_region 7 with (fail);obtain ⟨Z,hZ,CZ,gZ⟩:=LY.out;rw [hZ]
      have HRZ:=zid (show IsL Dsk.SL Z _ l/\zcK Z mv U from ⟨IsL.grown12 HK.out.1 gZ (fun q e=>by injection e with e;rw [<-e];exact HSP.out),HK.out.2.kept gZ (fun b e h=>HML.out b e (by injection h))⟩)
      have HCZ:=zid CZ;clear hZ CZ gZ LY y0 y1 y2 y3 y4 yf0 yf1 yf2 yf3 yf4 HK HR
      by_cases hE:E=0
      · subst hE
        replace HN:=zid (HN.out rfl)
        clear HE;go_wp2_with fail
        go_roundw
        case rel=>exact ⟨j+1,by omega,by go_num,b5,n5,c5,T,zid ⟨HCZ.out,HRZ.out.1,HRZ.out.2,HB.out,HN.out⟩⟩
        case measure=>simp [intOf];omega
      · replace HE:=zid (HE.out hE)
        have hE':=ne_b hE
        obtain ⟨p0,p1,p2,p3,p4⟩:=zaa HCZ.out.d;obtain ⟨z0,z1,z2,z3,z4⟩:=zaa HCZ.out.r;obtain ⟨zf0,zf1,zf2,zf3,zf4⟩:=zae HCZ.out.r;clear HN hE;go_wp2_with fail;obtain ⟨Y,hY,hr,hA⟩:=HCZ.out.ret;rw [hY];obtain ⟨x0,x1,x2,x3,x4⟩:=zaa hr;refine bodyPost_ret (v:= .tuple #[zac (.slice b5 n5 c5) T,.int .i64 E]) (by unfold zac;simp [results,Tryz.results48,go_sem,x0,x1,x2,x3,x4]) rfl ?_;rw [HE.out];exact hA E
  · have HF:=zid (show R=(Dj,0) by rw [<-HR.out.e,List.drop_of_length_le (by rw [HLN.out];omega)];rfl)
    obtain ⟨z0,z1,z2,z3,z4⟩:=zaa HR.out.c.r
    obtain ⟨zf0,zf1,zf2,zf3,zf4⟩:=zae HR.out.c.r;go_wp2_with fail;obtain ⟨Y,hY,hr,hA⟩:=HR.out.c.ret;rw [hY];obtain ⟨x0,x1,x2,x3,x4⟩:=zaa hr;refine bodyPost_ret (v:= .tuple #[zac (.slice a n c) Dj,.int .i64 0]) (by unfold zac;simp [results,Tryz.results48,go_sem,x0,x1,x2,x3,x4]) rfl ?_;rw [HF.out];exact hA 0
end Ro
section
open Go.RowKit
theorem zfV {W:World} {k:Nat} {x:Obj} (o:Obj) (h:W.heap[k]?=some x):(W.alloc o).heap[k]?=some x:=(Below.heap_alloc _ _ _ (Array.getElem?_eq_some_iff.1 h).1).trans h
namespace Gp
def fd (l:List UInt8) (b:Int) (k:Nat):Rp.Rec×Nat×Int:=
 if (Rp.nxt (l.drop k)).2.2=0 then (if (Rp.nxt (l.drop k)).1.a=b then ((Rp.nxt (l.drop k)).1,k+(Rp.nxt (l.drop k)).2.1,0) else (Rp.zero,0,3)) else (Rp.zero,0,(Rp.nxt (l.drop k)).2.2)
theorem fd_no {l:List UInt8} {b:Int} {k:Nat} {e:Int} (h:Rp.nxt (l.drop k)=(Rp.zero,0,e)) (he:e≠0):fd l b k=(Rp.zero,0,e):=by unfold fd;rw [h];dsimp only;rw [if_neg he]
theorem fd_form {l:List UInt8} {b:Int} {k j:Nat} {r:Rp.Rec} (h:Rp.nxt (l.drop k)=(r,j,0)) (ha:r.a≠b):fd l b k=(Rp.zero,0,3):=by unfold fd;rw [h];dsimp only;rw [if_pos rfl,if_neg ha]
theorem fd_yes {l:List UInt8} {b:Int} {k j:Nat} {r:Rp.Rec} (h:Rp.nxt (l.drop k)=(r,j,0)) (ha:r.a=b):fd l b k=(r,k+j,0):=by unfold fd;rw [h];dsimp only;rw [if_pos rfl,if_pos ha]
end Gp
def zhf (x:Rp.Rec×Nat×Int):Value:= .tuple #[.agg #[.int .i64 x.1.a,.int .i64 x.1.t,.string x.1.d],.int .i64 (x.2.1:Int),.int .i64 x.2.2]
theorem zf9 {l:List UInt8} {b:Int} {k:Nat} {e:Int} (h:Gp.fd l b k=(Rp.zero,0,e)):zhf (Gp.fd l b k)= .tuple #[.agg #[.int .i64 0,.int .i64 0,.string ⟨#[]⟩],.int .i64 0,.int .i64 e]:=by rw [h];rfl
theorem zff (b:Int) (w:World):Calls Tryz.prog 129 #[.int .i64 b] w fun e w'=>e= .returned (.bool (Rp.inB b))/\w=w':=by
 by_cases h0:b<0
 · rw [Rp.inB_no (.inl h0)]
   have e1:decide (0<=b)=false:=by simp;omega
   go_enter Tryz.func129,Tryz.ntmps129
   go_wp2_with fail;go_ret
   all_goals first | exact ⟨rfl,rfl⟩ | simp_all
 · by_cases h1:b<=1099511627776
   · rw [Rp.inB_mk (by omega) h1]
     have e1:decide (0<=b)=true:=by simp;omega
     have e2:decide (b<=1099511627776)=true:=by simp;omega
     go_enter Tryz.func129,Tryz.ntmps129
     go_wp2_with fail;go_ret
     all_goals first | exact ⟨rfl,rfl⟩ | simp_all
   · rw [Rp.inB_no (.inr (by omega))]
     have e1:decide (0<=b)=true:=by simp;omega
     have e2:decide (b<=1099511627776)=false:=by simp;omega
     go_enter Tryz.func129,Tryz.ntmps129
     go_wp2_with fail;go_ret
     all_goals first | exact ⟨rfl,rfl⟩ | simp_all
theorem zgV (s:ByteArray) (k:Nat) (b:Int) (w:World) (hs:s.size<=140737488351232):
 Calls Tryz.prog 131 #[.string s,.int .i64 (k:Int),.int .i64 b] w fun e w'=>e= .returned (zhf (Gp.fd s.data.toList b k))/\Below w.heap.size w w':=by
 have C:=fun W:World=>zeG s (k:Int) W hs;rw [zcC] at C;have HA:=zid ((Below.refl w.heap.size w).alloc (Nat.le_refl _) (.cells #[.int .i64 0,.int .i64 0,.string ⟨#[]⟩] 49));have G0:=zid (heap_alloc_new w (.cells #[.int .i64 0,.int .i64 0,.string ⟨#[]⟩] 49))
 rcases Fr.nx_cases (s.data.toList.drop k) with ⟨er,he,h3⟩ | ⟨j,bd,he,h5,h6,h7,h8⟩
 · rw [zaX he (by omega)] at C
   have HV:=zid (zf9 (Gp.fd_no (b:=b) (Rp.nxt_no he (by omega)) (by omega)))
   replace C:=zid C;clear he
   rcases h3 with rfl | rfl | rfl
   all_goals
    go_enter Tryz.func131,Tryz.ntmps131
    go_wp2_with fail;generalize World.alloc w _=w0 at HA G0 ⊢;refine (C.out _).mono ?_;rintro e w1 ⟨rfl,b1⟩;have HB:=zid (HA.out.trans (b1.mono HA.out.size));have G1:=zid ((b1.block w.heap.size (Array.getElem?_eq_some_iff.1 G0.out).1).trans G0.out);have hwl:=(Array.getElem?_eq_some_iff.1 G1.out).1;obtain ⟨f0,f1,f2⟩:=zfY G1.out;obtain ⟨z0,z1,z2⟩:=cells3 G1.out;clear b1 G0 HA;go_wp2_with fail;refine bodyPost_ret (v:= .tuple #[.agg #[.int .i64 0,.int .i64 0,.string ⟨#[]⟩],.int .i64 0,.int .i64 _]) (by simp [results,Tryz.results131,go_sem,z0,z1,z2];rfl) rfl ?_;exact ⟨by rw [HV.out];rfl,bel_st3 HB.out (Nat.le_refl _) _ _ _⟩
 · rw [zbY he] at C
   obtain ⟨q,hq⟩:∃q,k+j=q:=⟨_,rfl⟩
   rw [hq] at C;replace C:=zid C
   have hbl:bd.length<=9223372036854775807:=by have:=h7.2;omega
   have D:=fun W:World=>get_any ⟨bd.toArray⟩ W (by rw [zam];exact hbl);rw [show (⟨bd.toArray⟩:ByteArray).data.toList=bd from rfl] at D
   rcases Rp.get_cases bd with ⟨er,hg,h3⟩ | ⟨r,hg,hok,hbd⟩
   · rw [zbG hg] at D
     have HV:=zid (zf9 (Gp.fd_no (b:=b) (Rp.nxt_bad he hg (by omega)) (by omega)))
     replace D:=zid D;clear he hg h5 h6 h7 h8 hq hbl
     rcases h3 with rfl | rfl | rfl
     all_goals
      go_enter Tryz.func131,Tryz.ntmps131
      go_wp2_with fail;generalize World.alloc w _=w0 at HA G0 ⊢;refine (C.out _).mono ?_;rintro e w1 ⟨rfl,b1⟩;go_wp2_with fail;refine (D.out _).mono ?_;rintro e w2 ⟨rfl,b2⟩;have HB12:=zid (zaf b1 b2);have HB:=zid ((HA.out.trans (HB12.out.mono HA.out.size)).alloc (by have:=HA.out.size;have:=HB12.out.size;omega) (.cells #[.int .i64 0,.int .i64 0,.string ⟨#[]⟩] 49));have G1:=zid (zfV (.cells #[.int .i64 0,.int .i64 0,.string ⟨#[]⟩] 49) ((HB12.out.block w.heap.size (Array.getElem?_eq_some_iff.1 G0.out).1).trans G0.out));have hwl:=(Array.getElem?_eq_some_iff.1 G1.out).1;obtain ⟨f0,f1,f2⟩:=zfY G1.out;obtain ⟨z0,z1,z2⟩:=cells3 G1.out;clear b1 b2 G0 HA;go_wp2_with fail;refine bodyPost_ret (v:= .tuple #[.agg #[.int .i64 0,.int .i64 0,.string ⟨#[]⟩],.int .i64 0,.int .i64 _]) (by simp [results,Tryz.results131,go_sem,z0,z1,z2];rfl) rfl ?_;exact ⟨by rw [HV.out],bel_st3 HB.out (Nat.le_refl _) _ _ _⟩
   · rw [zdg hg] at D
     have hnx:=Rp.nxt_yes he hg
     have HV:=zid (show (r.a=b->zhf (Gp.fd s.data.toList b k)= .tuple #[.agg #[.int .i64 b,.int .i64 r.t,.string r.d],.int .i64 (q:Int),.int .i64 0])/\(r.a≠b->zhf (Gp.fd s.data.toList b k)= .tuple #[.agg #[.int .i64 0,.int .i64 0,.string ⟨#[]⟩],.int .i64 0,.int .i64 3]) from
      ⟨fun h=>by rw [Gp.fd_yes hnx h,hq];subst h;rfl,fun h=>zf9 (Gp.fd_form hnx h)⟩)
     unfold za3 at D;replace D:=zid D;clear he hg hok hnx h5 h6 h7 h8 hq hbl hbd;generalize zhf (Gp.fd s.data.toList b k)=V at*
     by_cases ha:r.a=b
     · have HV2:=zid (HV.out.1 ha)
       have hae:(r.a != b)=false:=by simpa using ha
       clear HV;obtain ⟨ra,rt,rd⟩:=r;dsimp only at ha HV2 D hae;subst ha
       go_enter Tryz.func131,Tryz.ntmps131
       go_wp2_with fail;generalize World.alloc w _=w0 at HA G0 ⊢;refine (C.out _).mono ?_;rintro e w1 ⟨rfl,b1⟩;go_wp2_with fail;refine (D.out _).mono ?_;rintro e w2 ⟨rfl,b2⟩;have HB12:=zid (zaf b1 b2);have HB:=zid ((HA.out.trans (HB12.out.mono HA.out.size)).alloc (by have:=HA.out.size;have:=HB12.out.size;omega) (.cells #[.int .i64 ra,.int .i64 rt,.string rd] 49));have G1:=zid (zfV (.cells #[.int .i64 ra,.int .i64 rt,.string rd] 49) ((HB12.out.block w.heap.size (Array.getElem?_eq_some_iff.1 G0.out).1).trans G0.out));have hwl:=(Array.getElem?_eq_some_iff.1 G1.out).1;obtain ⟨f0,f1,f2⟩:=zfY G1.out;obtain ⟨z0,z1,z2⟩:=cells3 G1.out;clear b1 b2 G0 HA;go_wp2_with fail;refine bodyPost_ret (v:= .tuple #[.agg #[.int .i64 ra,.int .i64 rt,.string rd],.int .i64 q,.int .i64 0]) (by simp [results,Tryz.results131,go_sem,z0,z1,z2]) rfl ?_;exact ⟨by rw [HV2.out],bel_st3 HB.out (Nat.le_refl _) _ _ _⟩
     · have HV2:=zid (HV.out.2 ha)
       have hae:(r.a != b)=true:=by simpa using ha
       clear HV;obtain ⟨ra,rt,rd⟩:=r;dsimp only at ha HV2 D hae
       go_enter Tryz.func131,Tryz.ntmps131
       go_wp2_with fail;generalize World.alloc w _=w0 at HA G0 ⊢;refine (C.out _).mono ?_;rintro e w1 ⟨rfl,b1⟩;go_wp2_with fail;refine (D.out _).mono ?_;rintro e w2 ⟨rfl,b2⟩;have HB12:=zid (zaf b1 b2);have HB:=zid ((HA.out.trans (HB12.out.mono HA.out.size)).alloc (by have:=HA.out.size;have:=HB12.out.size;omega) (.cells #[.int .i64 ra,.int .i64 rt,.string rd] 49));have G1:=zid (zfV (.cells #[.int .i64 ra,.int .i64 rt,.string rd] 49) ((HB12.out.block w.heap.size (Array.getElem?_eq_some_iff.1 G0.out).1).trans G0.out));have hwl:=(Array.getElem?_eq_some_iff.1 G1.out).1;obtain ⟨f0,f1,f2⟩:=zfY G1.out;obtain ⟨z0,z1,z2⟩:=cells3 G1.out;clear b1 b2 G0 HA;go_wp2_with fail;refine bodyPost_ret (v:= .tuple #[.agg #[.int .i64 0,.int .i64 0,.string ⟨#[]⟩],.int .i64 0,.int .i64 3]) (by simp [results,Tryz.results131,go_sem,z0,z1,z2]) rfl ?_;exact ⟨by rw [HV2.out],bel_st3 HB.out (Nat.le_refl _) _ _ _⟩
end
section
open Go.RowKit Go.Shelf
attribute [local go_sem] Oper.semAt_some
namespace Gp
def ItOk (b:Int) (x:Rp.Rec×Nat):Prop:=Rp.Ok x.1/\x.2<=140737488351232/\b<=x.1.a
abbrev It (b:Int):={x:Rp.Rec×Nat // ItOk b x}
inductive Zp (b:Int) (k0:Nat):List (It b)->List (Rp.Rec×Nat)->Nat->Prop
 | nil:Zp b k0 [] [] k0
 | snoc {xs:List (It b)} {ps:List (Rp.Rec×Nat)} {k:Nat} (x:It b):Zp b k0 xs ps k->x.1.1.a=b+ps.length->Zp b k0 (xs++[x]) (ps++[(x.1.1,k)]) x.1.2
theorem Zp.len {b:Int} {k0 k:Nat} {xs:List (It b)} {ps:List (Rp.Rec×Nat)} (h:Zp b k0 xs ps k):xs.length=ps.length:=by
 induction h with
 | nil=>rfl
 | snoc x h _ ih=>simp [ih]
theorem Zp.recs {b:Int} {k0 k:Nat} {xs:List (It b)} {ps:List (Rp.Rec×Nat)} (h:Zp b k0 xs ps k):xs.map (fun x=>x.1.1)=ps.map Prod.fst:=by
 induction h with
 | nil=>rfl
 | snoc x h _ ih=>simp [ih]
def zew {b:Int} (k0:Nat) (xs:List (It b)):Nat:=xs.foldl (fun _ x=>x.1.2) k0
theorem Zp.last {b:Int} {k0 k:Nat} {xs:List (It b)} {ps:List (Rp.Rec×Nat)} (h:Zp b k0 xs ps k):zew k0 xs=k:=by
 cases h with
 | nil=>rfl
 | snoc x h _=>simp [zew]
theorem zib {b:Int} (k0:Nat) (xs:List (It b)) (x:It b):zew k0 (xs++[x])=x.1.2:=by simp [zew]
def ziv (l:List UInt8) (b:Int) (k0:Nat) (xs:List (It b)):Prop:=∃ps k e,pls (l.drop k0) b k0=(ps,k,e)/\Good l b k0 ps k/\Zp b k0 xs ps k/\(fd l (b+ps.length) k).2.2≠0/\(k<l.length->e=(fd l (b+ps.length) k).2.2)/\(l.length<=k->e=0)
def zji (l:List UInt8) (b:Int) (k0:Nat) (xs:List (It b)):Prop:=∃ps k,PRel l b k0 ps k/\Good l b k0 ps k/\Zp b k0 xs ps k
theorem fd_cases (l:List UInt8) (b:Int) (k:Nat):(∃e,fd l b k=(Rp.zero,0,e)/\e≠0/\0<=e/\e<=6/\(k<l.length->(Rp.nxt (l.drop k)=(Rp.zero,0,e)\/ ∃r j,Rp.nxt (l.drop k)=(r,j,0)/\r.a≠b/\e=3)))\/
 ∃r j,fd l b k=(r,k+j,0)/\Rp.nxt (l.drop k)=(r,j,0)/\r.a=b/\Rp.Ok r/\7<=j/\j<=(l.drop k).length:=by
 rcases Rp.nxt_cases (l.drop k) with ⟨e,he,h3⟩ | ⟨r,j,he,hok,h5,h6,_⟩
 · exact .inl ⟨e,fd_no he (by omega),by omega,by omega,by omega,fun _=> .inl he⟩
 · by_cases ha:r.a=b
   · exact .inr ⟨r,j,fd_yes he ha,he,ha,hok,h5,h6⟩
   · exact .inl ⟨3,fd_form he ha,by decide,by decide,by decide,fun _=> .inr ⟨r,j,he,ha,rfl⟩⟩
theorem all_came {l:List UInt8} {b:Int} {k0 k:Nat} {xs:List (It b)} {ps:List (Rp.Rec×Nat)} {e:Int} (hr:PRel l b k0 ps k) (hg:Good l b k0 ps k) (hz:Zp b k0 xs ps k)
 (he:fd l (b+ps.length) k=(Rp.zero,0,e)) (h0:e≠0) (h:k<l.length->(Rp.nxt (l.drop k)=(Rp.zero,0,e)\/ ∃r j,Rp.nxt (l.drop k)=(r,j,0)/\r.a≠b+ps.length/\e=3)):ziv l b k0 xs:=by
 by_cases hk:k<l.length
 · rcases h hk with h1 | ⟨r,j,h1,h2,rfl⟩
   · exact ⟨ps,k,e,hr.stop hk h1 h0,hg,hz,by rw [he];exact h0,fun _=>by rw [he],fun h=>absurd hk (by omega)⟩
   · exact ⟨ps,k,3,hr.form hk h1 h2,hg,hz,by rw [he];exact h0,fun _=>by rw [he],fun h=>absurd hk (by omega)⟩
 · exact ⟨ps,k,0,hr.done (by omega),hg,hz,by rw [he];exact h0,fun h=>absurd h hk,fun _=>rfl⟩
end Gp
open Gp
def zi6 {b:Int} (x:It b):Array Value:= #[.agg #[.int .i64 x.1.1.a,.int .i64 x.1.1.t,.string x.1.1.d],.int .i64 (x.1.2:Int)]
theorem zcd {w w':World} (h:Below w.heap.size w w'):w.grownBy w' none:=⟨h.os,h.tape,h.output,h.size,fun k hk _=>h.block k hk⟩
def KpC (C:Nat) (A B:World):Prop:=∀o:Obj,A.heap[C]?=some o->B.heap[C]?=some o
theorem kpC_t {C:Nat} {X Y Z:World} (h:KpC C X Y) (k:KpC C Y Z):KpC C X Z:=fun o ho=>k o (h o ho)
theorem kpC_b {C n:Nat} (hC:C<n) (W:World) (l:Nat) (o o':Obj) (hl:n<=l) (_:W.heap[l]?=some o) (_:o.isCells=false) (_:o.isWalk=false):KpC C W (W.putObj l o'):=
 fun x hx=>(World.putObj_heap_other (by omega)).trans hx
theorem zlr {C:Nat} {A B:World} (h:Below A.heap.size A B):KpC C A B:=fun _ ho=>(h.block C (Array.getElem?_eq_some_iff.1 ho).1).trans ho
theorem zl6 {W:World} {k:Nat} {v:Value} {T:TypeId} (h:W.heap[k]?=some (.cells #[v] T (0,0))):W.cell? ⟨k,0,none⟩=some v:=by rw [cell_of_row _ _ 0 _ _ _ h];rfl
theorem iter9_in (s:ByteArray) (b:Int) (k0 A O C l:Nat) (n:Nat) (TC:TypeId) (hn:1<=n) (hs:s.size<=4398046511104) (hb0:0<=b) (hb1:b<=1099511627776) (hk0:k0<=s.size)
 (J Jx:List (It b)->World->Prop) (W:World) (hJ:AbidesFrom W.heap.size J)
 (hY:∀pre x W1,J pre W1->pre.length<s.size+1->YieldAt Fence.wide (n-1) Tryz.prog l (zi6 x) W1 fun e W'=>
  (e= .returned (.bool true)/\J (pre++[x]) W'/\KpC C W1 W')\/(e= .returned (.bool false)/\Jx (pre++[x]) W'))
 (cA:W.cell? ⟨A,0,none⟩=some (.int .i64 (k0:Int))) (cO:W.cell? ⟨O,0,none⟩=some (.int .i64 b)) (gC:W.heap[C]?=some (.cells #[.string s] TC (0,0))) (h0:J [] W):
 CallsIn Fence.wide n Tryz.prog 150 #[.func (.yield l) #[] #[],.pointer (some ⟨A,0,none⟩),.pointer (some ⟨O,0,none⟩),.pointer (some ⟨C,0,none⟩)] W fun e W'=>(∃v,e= .returned v)/\
  ((∃ys,ziv s.data.toList b k0 ys/\J ys W')\/(∃pre,zji s.data.toList b k0 pre/\Jx pre W')):=by
 have HJ:=zid hJ;have HY:=zid hY;have HL:=zid (show s.data.toList.length=s.size from rfl);clear hJ hY;refine callsIn_of_wp Tryz.func150 rfl trivial ?_ rfl;simp only [Tryz.ntmps150,List.size_toArray,List.length_cons,List.length_nil,Nat.reduceAdd,Nat.reduceSub,Array.replicate_succ,Array.replicate_zero,List.push_toArray,List.append_toArray,List.nil_append,List.cons_append]
 gi_wp2
 gi_region
 all_goals gi_wp2
 gi_loopw [5,6] (fun p q wr=>∃(pre:List (It b)) (ps:List (Rp.Rec×Nat)) (k:Nat),p= .int .i64 (k:Int)/\q= .int .i64 (b+(ps.length:Int))/\J pre wr/\wr.heap[C]?=some (.cells #[.string s] TC (0,0))/\Gp.PRel s.data.toList b k0 ps k/\Gp.Good s.data.toList b k0 ps k/\Zp b k0 pre ps k)
  (fun p _ _=>s.size-(intOf p).toNat)
 case atStart=>
  refine ⟨[],[],k0,rfl,by simp,?_,gC,Gp.PRel.start _ _ _,Gp.Good.start _ _ _,Zp.nil⟩;exact HJ.out _ _ _ none h0 (zcd ((Below.refl _ W).drew)) (fun r e=>by cases e)
 case round=>
  obtain ⟨pre,ps,k,rfl,rfl,hJs,hB,hPR,hG,hZ⟩:=hrel;have HPR:=zid hPR;have HG:=zid hG;have HZ:=zid hZ;have HB:=zid hB;have cC1:=zl6 hB;have hln:=hZ.len;have hfew:=hG.few
  have hks:k<=s.size:=by
   rcases hG.le with h | h
   · rw [HL.out] at h;exact h
   · omega
  have HJS:=zid hJs;obtain ⟨m,hm⟩:∃m,ps.length=m:=⟨_,rfl⟩;have NX:=fun W1:World=>zgV s k (b+(m:Int)) W1 (by omega)
  have hlt:pre.length<s.size+1:=by omega
  clear hPR hG hZ hJs hB
  rcases fd_cases s.data.toList (b+(m:Int)) k with ⟨e,he,hne,he0,he6,hwhy⟩ | ⟨r,j,he,hnx,ha,hok,h7,h8⟩
  · rw [he] at NX
    have HD:=zid (all_came HPR.out HG.out HZ.out (by rw [hm];exact he) hne (by rw [hm];exact hwhy))
    have hnb:(e != 0)=true:=by simpa using hne
    unfold zhf Rp.zero at NX;dsimp only at NX;replace NX:=zid NX;clear he hwhy;rw [hm]
    gi_wp2_with (refine ⟨trivial,?_⟩;gi_at_call 131;refine (callsIn_wide.2 (NX.out _)).mono ?_;rintro e1 w1 ⟨rfl,b1⟩;have B2:=zid (b1.alloc (Below.size b1) (Obj.cells #[.int .i64 0,.int .i64 0,.string ByteArray.empty] 49));have J2:=zid (HJ.out _ _ _ none HJS.out (zcd B2.out) (fun r e=>by cases e));clear b1)
    refine ⟨fun _ h=>(by cases h),?_⟩
    gi_wp2
    refine bodyPost_ret (results_none rfl _ _ _) rfl ?_;exact ⟨⟨_,rfl⟩,.inl ⟨_,HD.out,J2.out⟩⟩
  · obtain ⟨q,hq⟩:∃q,k+j=q:=⟨_,rfl⟩
    rw [List.length_drop,HL.out] at h8
    have hq1:k+7<=q:=by omega
    have hq2:q<=s.size:=by omega
    rw [he,hq] at NX;obtain ⟨x,hx⟩:∃x:It b,x=⟨(r,q),hok,by show q<=_;omega,by show b<=r.a;omega⟩:=⟨_,rfl⟩;have HX:=zid (show zi6 x= #[.agg #[.int .i64 r.a,.int .i64 r.t,.string r.d],.int .i64 (q:Int)] by rw [hx];rfl)
    have HST:=zid (show Gp.PRel s.data.toList b k0 (ps++[(r,k)]) q/\Gp.Good s.data.toList b k0 (ps++[(r,k)]) q/\Zp b k0 (pre++[x]) (ps++[(r,k)]) q from by
     rw [<-hm] at ha
     have hj:j<=(s.data.toList.drop k).length:=by rw [List.length_drop,HL.out];exact h8
     refine ⟨?_,?_,?_⟩
     · rw [<-hq];exact HPR.out.step hnx (by omega) hj ha
     · rw [<-hq];exact HG.out.step hok ha h7 hj
     · subst hx;exact Zp.snoc _ HZ.out ha)
    have HPL:=zid (show (ps++[(r,k)]).length=m+1 by simp [hm]);unfold zhf at NX;dsimp only at NX;replace NX:=zid NX;clear he hnx hok ha hx;rw [hm]
    gi_wp2_with (refine ⟨trivial,?_⟩;gi_at_call 131;refine (callsIn_wide.2 (NX.out _)).mono ?_;rintro e1 w1 ⟨rfl,b1⟩;have B2:=zid (b1.alloc (Below.size b1) (Obj.cells #[.int .i64 r.a,.int .i64 r.t,.string r.d] 49));obtain ⟨fn,tmps,assign,body,hy,hR⟩:=HY.out pre x _ (HJ.out _ _ _ none HJS.out (zcd B2.out) (fun r e=>by cases e)) hlt;rw [HX.out] at hy;have HR:=zid hR;clear hR b1)
    refine HR.out.mono ?_;rintro e W3 (⟨rfl,hJ3,hk3⟩ | ⟨rfl,hJx3⟩)
    · have HJ3:=zid hJ3
      have B3:=zid (hk3 _ ((B2.out.block C (Array.getElem?_eq_some_iff.1 HB.out).1).trans HB.out))
      clear hJ3 hk3
      gi_wp2
      go_roundw
      case rel=>exact ⟨pre++[x],ps++[(r,k)],q,rfl,by rw [HPL.out];exact congrArg (Value.int .i64) (by omega),HJ3.out,B3.out,HST.out.1,HST.out.2.1,HST.out.2.2⟩
      case measure=>simp [intOf];omega
    · have HJX:=zid hJx3
      clear hJx3
      gi_wp2
      refine bodyPost_ret (results_none rfl _ _ _) rfl ?_;exact ⟨⟨_,rfl⟩,.inr ⟨_,⟨_,_,HST.out.1,HST.out.2.1,HST.out.2.2⟩,HJX.out⟩⟩
theorem zid_ (s:ByteArray) (b:Int) (k0 A O C:Nat) (n:Nat) (TC:TypeId) (hn:1<=n) (hs:s.size<=4398046511104) (hb0:0<=b) (hb1:b<=1099511627776) (hk0:k0<=s.size) (w:World)
 (hA:A<w.heap.size) (hO:O<w.heap.size) (hC:C<w.heap.size)
 (cA:w.cell? ⟨A,0,none⟩=some (.int .i64 (k0:Int))) (cO:w.cell? ⟨O,0,none⟩=some (.int .i64 b)) (gC:w.heap[C]?=some (.cells #[.string s] TC (0,0))):
 SeqStopsK Fence.wide n Tryz.prog 150 #[.pointer (some ⟨A,0,none⟩),.pointer (some ⟨O,0,none⟩),.pointer (some ⟨C,0,none⟩)] (zi6 (b:=b)) (KpC C)
  (ziv s.data.toList b k0) (zji s.data.toList b k0) (s.size+1) w:=fun l J Jx W hW hJ _ hY h0=>
 iter9_in s b k0 A O C l n TC hn hs hb0 hb1 hk0 J Jx W hJ hY ((hW.cell (p:=⟨A,0,none⟩) hA).trans cA) ((hW.cell (p:=⟨O,0,none⟩) hO).trans cO) ((hW.block C hC).trans gC) h0
theorem zgQ (s:ByteArray) (k0:Nat) (b:Int) (w:World):
 Calls Tryz.prog 130 #[.string s,.int .i64 (k0:Int),.int .i64 b] w fun e w'=>
  e= .returned (.func (.func 150) #[] #[.pointer (some ⟨w.heap.size+1,0,none⟩),.pointer (some ⟨w.heap.size+2,0,none⟩),.pointer (some ⟨w.heap.size,0,none⟩)])/\
  w'=((w.alloc (.cells #[.string s] 9)).alloc (.cells #[.int .i64 (k0:Int)] 3)).alloc (.cells #[.int .i64 b] 3):=by
 go_enter Tryz.func130,Tryz.ntmps130
 go_wp2_with fail;go_ret;exact ⟨rfl,rfl⟩
end
end Go.Proofs.YtooipogbmfkeeaaGreat

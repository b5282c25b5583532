/-
  Parts of what the laws of this seat stand on:RoSet,MrRight,MrPut.
-/
import Derived.Test.YtgmppfpllogdcaaGreatBi1
import Derived.Test.YtgmppfpllogdcaaGreatBi14
import Derived.Test.YtgmppfpllogdcaaGreatBi16
import Derived.Test.YtgmppfpllogdcaaGreatBi25
set_option maxRecDepth 100000
set_option maxHeartbeats 6400000
namespace Go.Proofs.YtgmppfpllogdcaaGreat
namespace Ro
open Go.RowKit So Dsk Rts Sto
def sC (fv gv:Value) (S:St):Obj:= .cells #[fv,.int .i64 S.d.c,.bool S.d.a,.int .i64 S.d.l,.bool S.d.x,.int .i64 S.v,gv,.int .i64 S.x,.int .i64 S.s,.int .i64 S.z,.int .u32 S.c] 31
theorem zlM {D:Dp.Dk} {k:Nat} (h:Bd D k) (n:ByteArray) (m:Nat) (hm:m<=9223372036854775807):Bd (Lg.cutT D n m).1 (k+1):=by
 unfold Lg.cutT
 split
 · exact Lg.bd_cut h n m hm
 · exact h.mono (Nat.le_succ k)
end Ro
namespace Mfs
open Go.RowKit Qm
def zhc (l:List Int):Prop:=1<=l.length/\l.length<=64/\∀i,i<l.length->AtOk l i
def SnapOk (f z c:Int):Prop:=(f=0/\z=0/\c=0)\/(f≠0/\1<=z/\z<=65536)
instance (f z c:Int):Decidable (SnapOk f z c):=by unfold SnapOk;infer_instance
def zcT (l:List Int):Nat->Int
 | 0=> -1
 | k+1=>l.getD k 0
theorem zjE (l:List Int) (k:Nat) (h:∀j,j<k->AtOk l j):
 (¬AtOk l k/\(l.getD k 0<=zcT l k\/(zcT l k<l.getD k 0/\1099511627776<l.getD k 0)))\/(AtOk l k/\zcT l k<l.getD k 0/\l.getD k 0<=1099511627776):=by
 have hlast: -1<=zcT l k/\(0<k->zcT l k=l.getD (k-1) 0)/\(k=0->zcT l k= -1):=by
  cases k with
  | zero=>exact ⟨by show (-1:Int)<= -1;omega,by omega,fun _=>rfl⟩
  | succ k=>exact ⟨by have:=(h k (by omega)).1;show (-1:Int)<=l.getD k 0;omega,fun _=>rfl,by omega⟩
 obtain ⟨h0,h1,h2⟩:=hlast
 by_cases c1:l.getD k 0<=zcT l k
 · refine .inl ⟨fun ⟨a0,_,a2⟩=>?_,.inl c1⟩
   by_cases hk:k=0
   · have:=h2 hk;omega
   · have:=a2 (by omega);have:=h1 (by omega);omega
 · by_cases c2:1099511627776<l.getD k 0
   · exact .inl ⟨fun ⟨_,a1,_⟩=>by omega,.inr ⟨by omega,c2⟩⟩
   · exact .inr ⟨⟨by omega,by omega,fun hk=>by have:=h1 hk;omega⟩,by omega,by omega⟩
theorem zet (fa:Option Addr) (fn fc:Nat) (l:List Int) (b:Bool) (w:World) (hv:IsL IL w (.slice fa fn fc) l) (hb:b=true↔zhc l):
 Calls Tryz.prog 156 #[.slice fa fn fc] w fun e w'=>e= .returned (.bool b)/\w=w':=by
 have HV:=zid hv;have HFL:=zid hv.len.1;have HN:=zid (show ¬zhc l->b=false from fun h=>by rw [<-Bool.not_eq_true,hb];exact h);have HY:=zid (show zhc l->b=true from hb.2);clear hv hb
 by_cases g3:(fn:Int)<1
 · have HF:=zid (HN.out fun h=>by have:=h.1;rw [<-HFL.out] at this;omega)
   go_enter Tryz.func156,Tryz.ntmps156
   go_wp2_with fail;go_ret;exact ⟨by rw [HF.out];rfl,rfl⟩
 have e3:decide ((fn:Int)<1)=false:=by simp;omega
 by_cases g4:(64:Int)<(fn:Int)
 · have HF:=zid (HN.out fun h=>by have:=h.2.1;rw [<-HFL.out] at this;omega)
   go_enter Tryz.func156,Tryz.ntmps156
   go_wp2_with fail;go_ret;exact ⟨by rw [HF.out];rfl,rfl⟩
 have e4:decide ((64:Int)<(fn:Int))=false:=by simp;omega
 go_enter Tryz.func156,Tryz.ntmps156
 go_wp2_with fail
 go_loop [3,16] (fun z i=>∃k:Nat,k<=fn/\i= .int .i64 k/\z= .int .i64 (zcT l k)/\∀j,j<k->AtOk l j) (fun _ i=>fn-(intOf i).toNat)
 case atStart=>exact ⟨0,Nat.zero_le _,rfl,rfl,fun j hj=>absurd hj (Nat.not_lt_zero j)⟩
 case round=>
  obtain ⟨k,hk,rfl,rfl,hall⟩:=hrel;have HALL:=zid hall
  by_cases hlt:k<fn
  · obtain ⟨g,off,rfl,y0⟩:=il_at HV.out hlt
    have HLS:=zid (show zcT l (k+1)=l.getD k 0 from rfl)
    rcases zjE l k hall with ⟨hno,hbad⟩ | ⟨hyes,i1,i2⟩
    · have HF:=zid (HN.out fun h=>hno (h.2.2 k (by rw [<-HFL.out];exact hlt)))
      clear hno hall
      generalize l.getD k 0=f at*;generalize zcT l k=la at*
      rcases hbad with i1 | ⟨i1,i2⟩
      · go_wp2_with fail
        go_ret
        exact ⟨by rw [HF.out];rfl,rfl⟩
      · have q1:decide (f<=la)=false:=by simpa using i1
        go_wp2_with fail
        go_ret;exact ⟨by rw [HF.out];rfl,rfl⟩
    · have GY:=zid (ziW hall hyes)
      clear hyes hall
      generalize l.getD k 0=f at*;generalize zcT l k=la at*
      have q1:decide (f<=la)=false:=by simpa using i1
      have q2:decide ((1099511627776:Int)<f)=false:=by simpa using i2
      go_wp2_with fail
      go_round
      case rel=>exact ⟨k+1,by omega,by go_num,by rw [HLS.out],GY.out⟩
      case measure=>simp [intOf];omega
  · have HF:=zid (HY.out ⟨by rw [<-HFL.out];omega,by rw [<-HFL.out];omega,fun i hi=>HALL.out i (by rw [<-HFL.out] at hi;omega)⟩)
    clear hall
    go_wp2_with fail;go_ret;exact ⟨by rw [HF.out];rfl,rfl⟩
theorem zhS (f z c:Int) (w:World):
 Calls Tryz.prog 157 #[.int .i64 f,.int .i64 z,.int .u32 c] w fun e w'=>e= .returned (.bool (decide (SnapOk f z c)))/\w=w':=by
 by_cases h0:f=0
 · subst h0
   have HV:=zid (show decide (SnapOk 0 z c)=(decide (z=0)&&decide (c=0)) by unfold SnapOk;simp)
   by_cases h1:z=0
   · subst h1
     have HW:=zid (show (decide (c=0))=(c==0) from by cases h:decide (c=0)<;>simp_all)
     go_enter Tryz.func157,Tryz.ntmps157
     go_wp2_with fail;go_ret;refine ⟨?_,rfl⟩;rw [HV.out,HW.out]
     rfl
   · have q1:(z==0)=false:=by simpa using h1
     have HW:=zid (show decide (SnapOk 0 z c)=false by rw [HV.out];simp [h1])
     clear h1
     go_enter Tryz.func157,Tryz.ntmps157
     go_wp2_with fail;go_ret;exact ⟨by rw [HW.out];rfl,rfl⟩
 · have q0:(f==0)=false:=by simpa using h0
   have HV:=zid (show decide (SnapOk f z c)=(decide (1<=z)&&decide (z<=65536)) by unfold SnapOk;simp [h0])
   clear h0
   by_cases h1:1<=z
   · have HW:=zid (show decide (SnapOk f z c)=decide (z<=65536) by rw [HV.out];simp [h1])
     go_enter Tryz.func157,Tryz.ntmps157
     go_wp2_with fail;go_ret;exact ⟨by rw [HW.out];rfl,rfl⟩
   · have q1:decide (1<=z)=false:=by simpa using h1
     have HW:=zid (show decide (SnapOk f z c)=false by rw [HV.out];simp [h1])
     clear h1
     go_enter Tryz.func157,Tryz.ntmps157
     go_wp2_with fail;go_ret;exact ⟨by rw [HW.out];rfl,rfl⟩
theorem ok_parts (m:Mn):Ok m↔1<=m.v/\m.v<=1099511627776/\zhc m.l/\SnapOk (m.l.getD 0 0) m.z m.c/\0<=m.c/\m.c<4294967296:=
 ⟨fun h=>⟨h.v0,h.v1,⟨h.n0,h.n1,h.at_⟩,h.z,h.c⟩,fun ⟨a,b,⟨c,d,e⟩,f,g⟩=>⟨a,b,c,d,e,f,g⟩⟩
theorem zem (fa:Option Addr) (fn fc:Nat) (m:Mn) (b:Bool) (w:World) (hv:IsL IL w (.slice fa fn fc) m.l) (hB:MnB m) (hb:b=true↔Ok m):
 Calls Tryz.prog 142 #[mnVal fa fn fc m] w fun e w'=>e= .returned (.bool b)/\Below w.heap.size w w':=by
 obtain ⟨_,_,c0,c1⟩:=hB;have HFL:=zid hv.len.1;have HN:=zid (show ¬Ok m->b=false from fun h=>by rw [<-Bool.not_eq_true,hb];exact h);have HY:=zid (show Ok m->b=true from hb.2);clear hb;have HA:=zid ((Below.refl w.heap.size w).alloc (Nat.le_refl _) (.cells #[.int .i64 m.v,.slice fa fn fc,.int .i64 m.z,.int .u32 m.c] 76));obtain ⟨x0,x1,x2,x3⟩:=cells4 (heap_alloc_new w (.cells #[.int .i64 m.v,.slice fa fn fc,.int .i64 m.z,.int .u32 m.c] 76));have HVA:=zid (hv.keep HA.out);have HOP:=zid (ok_parts m);obtain ⟨mv,ml,mz,mc⟩:=m;unfold mnVal;dsimp only at*
 by_cases g1:1<=mv
 case neg=>
  have HF:=zid (HN.out fun h=>g1 h.v0)
  have e1:decide (1<=mv)=false:=by simpa using g1
  clear hv g1
  go_enter Tryz.func142,Tryz.ntmps142
  go_wp2_with fail
  go_quiet (fail)
  go_wp2_with fail;go_ret;exact ⟨by rw [HF.out];rfl,HA.out.trans ((zae _).mono HA.out.size)⟩
 by_cases g2:mv<=1099511627776
 case neg=>
  have HF:=zid (HN.out fun h=>g2 h.v1)
  have e2:decide (mv<=1099511627776)=false:=by simpa using g2
  clear hv g2
  go_enter Tryz.func142,Tryz.ntmps142
  go_wp2_with fail
  go_quiet (fail)
  go_wp2_with fail;go_ret;exact ⟨by rw [HF.out];rfl,HA.out.trans ((zae _).mono HA.out.size)⟩
 by_cases g3:zhc ml
 case neg=>
  have HF:=zid (HN.out fun h=>g3 (HOP.out.1 h).2.2.1);have C:=zid fun (W:World) (hW:IsL IL W (.slice fa fn fc) ml)=>zet fa fn fc ml false W hW ⟨(fun h=>by cases h),fun h=>absurd h g3⟩;clear hv g3
  go_enter Tryz.func142,Tryz.ntmps142
  go_wp2_with fail
  go_quiet ((go_at_call 156;exact Calls.quiet_of_same ((C.out _ (HVA.out.keep (zae _))).mono fun _ _ ⟨he,hw⟩=>⟨he,hw.symm⟩)))
  go_wp2_with fail;go_ret;exact ⟨by rw [HF.out];rfl,HA.out.trans ((zae _).mono HA.out.size)⟩
 have C:=zid fun (W:World) (hW:IsL IL W (.slice fa fn fc) ml)=>zet fa fn fc ml true W hW ⟨fun _=>g3,fun _=>rfl⟩;obtain ⟨g,off,rfl,y0⟩:=il_at HVA.out (show 0<fn by rw [HFL.out];exact g3.1);rw [Nat.add_zero] at y0;have D:=zid fun W:World=>zhS (ml.getD 0 0) mz mc W
 have HD:=zid (show decide (SnapOk (ml.getD 0 0) mz mc)=b by
  by_cases h:SnapOk (ml.getD 0 0) mz mc
  · rw [HY.out (HOP.out.2 ⟨g1,g2,g3,h,c0,c1⟩)];simpa using h
  · rw [HN.out fun hk=>h (HOP.out.1 hk).2.2.2.1];simpa using h)
 rw [HD.out] at D
 have hfn:0<fn:=by rw [HFL.out];exact g3.1
 generalize ml.getD 0 0=f at*;clear hv g3 HD
 go_enter Tryz.func142,Tryz.ntmps142
 go_wp2_with fail
 go_quiet (first | (go_at_call 156;exact Calls.quiet_of_same ((C.out _ (HVA.out.keep (zae _))).mono fun _ _ ⟨he,hw⟩=>⟨he,hw.symm⟩)) | (go_at_call 157;exact Calls.quiet_of_same ((D.out _).mono fun _ _ ⟨he,hw⟩=>⟨he,hw.symm⟩)))
 go_wp2_with fail;go_ret;exact ⟨rfl,HA.out.trans ((zae _).mono HA.out.size)⟩
theorem put10_no (fa:Option Addr) (fn fc:Nat) (m:Mn) (w:World) (hv:IsL IL w (.slice fa fn fc) m.l) (hB:MnB m) (h:¬Ok m):
 Calls Tryz.prog 126 #[mnVal fa fn fc m] w fun e w'=>e= .returned (putVal10 m)/\Below w.heap.size w w':=by
 unfold putVal10;rw [putM_no h];dsimp only;have HA:=zid ((Below.refl w.heap.size w).alloc (Nat.le_refl _) (.cells #[.int .i64 m.v,.slice fa fn fc,.int .i64 m.z,.int .u32 m.c] 76));have RR:=zem fa fn fc m false _ (hv.keep HA.out) hB ⟨(fun h=>by cases h),fun hk=>absurd hk h⟩;unfold mnVal at*;replace RR:=zid RR;obtain ⟨mv,ml,mz,mc⟩:=m;dsimp only at*;clear hv h
 go_enter Tryz.func126,Tryz.ntmps126
 go_wp2_with fail;refine RR.out.mono ?_;rintro e w1 ⟨rfl,b1⟩;have B1:=zid (HA.out.trans (b1.mono HA.out.size));clear b1;go_wp2_with fail;go_ret2;exact ⟨rfl,B1.out⟩
theorem zkJ (fa:Option Addr) (fn fc:Nat) (m:Mn) (w:World) (hv:IsL IL w (.slice fa fn fc) m.l) (h:Ok m):
 Calls Tryz.prog 126 #[mnVal fa fn fc m] w fun e w'=>e= .returned (putVal10 m)/\Below w.heap.size w w':=by
 unfold putVal10;rw [putM_yes h];dsimp only;have hnn:=zbA h
 have hB:MnB m:=⟨⟨by have:=h.v0;omega,by have:=h.v1;omega⟩,by rcases h.z with ⟨_,h1,_⟩ | ⟨_,h1,h2⟩<;>omega,h.c⟩
 have HA:=zid ((Below.refl w.heap.size w).alloc (Nat.le_refl _) (.cells #[.int .i64 m.v,.slice fa fn fc,.int .i64 m.z,.int .u32 m.c] 76));have G0:=zid (heap_alloc_new w (.cells #[.int .i64 m.v,.slice fa fn fc,.int .i64 m.z,.int .u32 m.c] 76));have RR:=zem fa fn fc m true _ (hv.keep HA.out) hB ⟨fun _=>h,fun _=>rfl⟩;unfold mnVal at*;replace RR:=zid RR;have HV:=zid hv;have hfl:=hv.len.1;obtain ⟨C,hC⟩:∃C:Nat,m.c=(C:Int):=⟨m.c.toNat,by have:=h.c;omega⟩
 have hC2:C<4294967296:=by have:=h.c;omega
 have hv0:=h.v0;have hv1:=h.v1
 have hn0:fn<=64:=by rw [hfl];exact h.n1
 have hz0:0<=m.z/\m.z<=65536:=by rcases h.z with ⟨_,h1,_⟩ | ⟨_,h1,h2⟩<;>omega
 have HL:=zid fun i (hi:i<fn)=>hnn (m.l.getD i 0) (by
  unfold nums;rw [hfl] at hi
  have e:m.l.getD i 0=m.l[i]:=by simp [List.getD_eq_getElem?_getD,hi]
  rw [e]
  simp)
 have HTK:=zid fun i (hi:i<fn)=>(show m.l.take (i+1)=m.l.take i++[m.l.getD i 0] from zbv (by rw [<-hfl];exact hi))
 have HFR:=zid fun (B:ByteArray) (hb:B.data.toList=body m) (W:World)=>(show Calls Tryz.prog 144 #[.string B] W fun e w'=>e= .returned (.tuple #[.string ⟨(Fr.fr (body m)).toArray⟩,.int .i64 0])/\Below W.heap.size W w' from by
  have hs:B.size=(body m).length:=by rw [<-hb];rfl
  have:=fput_yes B W (by rw [hs];exact body_may h);rw [hb] at this
  exact this)
 have HBD:=zid (show ∀R,R=puts (m.v::(fn:Int)::m.l.take fn)->(⟨R.toArray⟩++⟨(putI m.z).toArray⟩++⟨(zew C).toArray⟩:ByteArray).data.toList=body m from fun R hR=>by
  subst hR;have e1:m.l.take fn=m.l:=List.take_of_length_le (by rw [hfl];exact Nat.le_refl _);rw [e1,zcM hz0.1];show puts (m.v::(fn:Int)::m.l)++Vp.put m.z.toNat++zew C=_;unfold body nums;rw [hC,show ((C:Int)).toNat=C from by omega,show (m.v::(m.l.length:Int)::(m.l++[m.z]))=(m.v::(m.l.length:Int)::m.l)++[m.z] from rfl,zaV,zds,hfl]
  rfl)
 obtain ⟨mv,ml,mz,mc⟩:=m;dsimp only at*;subst hC;clear hv h hnn hfl;have hpl:(putI mz).length<=9:=za3 _;have hp1:(putI mv).length<=9:=za3 _;have hp2:(putI (fn:Int)).length<=9:=za3 _
 have s1:¬9223372036854775807<(putI mv).length+(putI (fn:Int)).length:=by omega
 have HP0:=zid (show (⟨(putI mv).toArray⟩++⟨(putI (fn:Int)).toArray⟩:ByteArray)=⟨(puts (mv::(fn:Int)::ml.take 0)).toArray⟩ by
  rw [ByteArray.mk_append_mk,zcM (by omega),zcM (by omega),List.take_zero,zbG,zbG,ziv,List.append_nil])
 go_enter Tryz.func126,Tryz.ntmps126
 go_wp2_with fail;refine RR.out.mono ?_;rintro e w1 ⟨rfl,b1⟩;have G1:=zid ((b1.block w.heap.size (Array.getElem?_eq_some_iff.1 G0.out).1).trans G0.out);have B1:=HA.out.trans (b1.mono HA.out.size);obtain ⟨x0,x1,x2,x3⟩:=cells4 G1.out;have ST:w1.cell? ⟨w.heap.size,0,none⟩=some (.int .i64 mv)/\w1.cell? ⟨w.heap.size,1,none⟩=some (.slice fa fn fc)/\w1.cell? ⟨w.heap.size,2,none⟩=some (.int .i64 mz)/\w1.cell? ⟨w.heap.size,3,none⟩=some (.int .u32 (C:Int))/\Below w.heap.size w w1:=⟨x0,x1,x2,x3,B1⟩;clear b1 x0 x1 x2 x3 B1 G0 HA RR;go_wp2_with fail
 go_region_held3 (fun W=>W.cell? ⟨w.heap.size,0,none⟩=some (.int .i64 mv)/\W.cell? ⟨w.heap.size,1,none⟩=some (.slice fa fn fc)/\W.cell? ⟨w.heap.size,2,none⟩=some (.int .i64 mz)/\W.cell? ⟨w.heap.size,3,none⟩=some (.int .u32 (C:Int))/\Below w.heap.size w W) (first | assumption | exact zeM (by assumption) (Below.refl _ _).drew | exact zeM (by assumption) (by assumption)) (first | (go_at_call 143;refine (put_any _ _ (by omega) (by omega)).mono ?_;rintro e w4 ⟨rfl,b4⟩))
 rename_i qq;have HS4:=zid qq;obtain ⟨x0,x1,x2,x3,hbx⟩:=qq;clear ST hbx;go_wp2_with fail;clear x0 x1 x2 x3
 go_loopw [4,21] (fun s i wr=>∃(k:Nat) (R:List UInt8),k<=fn/\i= .int .i64 k/\s= .string ⟨R.toArray⟩/\R=puts (mv::(fn:Int)::ml.take k)/\R.length<=9*(k+2)/\Hid (wr.cell? ⟨w.heap.size,0,none⟩=some (.int .i64 mv)/\wr.cell? ⟨w.heap.size,1,none⟩=some (.slice fa fn fc)/\wr.cell? ⟨w.heap.size,2,none⟩=some (.int .i64 mz)/\wr.cell? ⟨w.heap.size,3,none⟩=some (.int .u32 (C:Int))/\Below w.heap.size w wr))
  (fun _ i _=>fn-(intOf i).toNat)
 case atStart=>exact ⟨0,puts (mv::(fn:Int)::ml.take 0),Nat.zero_le _,rfl,by rw [HP0.out],rfl,by have:=puts_le (mv::(fn:Int)::ml.take 0);simp at this ⊢;omega,HS4⟩
 case round=>
  obtain ⟨k,R,hk,rfl,rfl,hR,hRl,HS⟩:=hrel;have HR:=zid hR;obtain ⟨x0,x1,x2,x3,hbw⟩:=HS.out;clear hR
  by_cases hlt:k<fn
  · obtain ⟨g,off,rfl,c0⟩:=il_at (HV.out.keep hbw) hlt
    obtain ⟨hf0,hf1⟩:=HL.out k hlt
    have HRS:=zid (show puts (mv::(fn:Int)::ml.take (k+1))=puts (mv::(fn:Int)::ml.take k)++Vp.put (ml.getD k 0).toNat by
     rw [HTK.out k hlt,show (mv::(fn:Int)::(ml.take k++[ml.getD k 0]))=(mv::(fn:Int)::ml.take k)++[ml.getD k 0] from rfl,zaV,zds])
    generalize ml.getD k 0=f at*;have P:=fun W:World=>put_any f W (by omega) (by omega);rw [zcM hf0] at P;replace P:=zid P;have hp9:=zfx f.toNat;generalize Vp.put f.toNat=pf at*
    have s2:¬9223372036854775807<R.length+pf.length:=by omega
    clear hbw;go_wp2_with fail;refine (P.out _).mono ?_;rintro e w5 ⟨rfl,b5⟩;have HS5:=zid (zeM HS.out b5);clear b5 x0 x1 x2 x3;go_wp2_with fail
    go_roundw
    case rel=>exact ⟨k+1,R++pf,by omega,by go_num,congrArg Value.string (ByteArray.mk_append_mk R pf),by rw [HRS.out, <-HR.out],by rw [List.length_append];omega,HS5⟩
    case measure=>simp [intOf];omega
  · obtain rfl:k=fn:=by omega
    have F:=HFR.out _ (HBD.out R HR.out)
    have s2:¬9223372036854775807<R.length+(putI mz).length:=by omega
    have s3:¬9223372036854775807<R.length+(putI mz).length+(zew C).length:=by have:(zew C).length=4:=rfl;omega
    replace F:=zid F;have ST2:wr.cell? ⟨w.heap.size,0,none⟩=some (.int .i64 mv)/\wr.cell? ⟨w.heap.size,1,none⟩=some (.slice fa k fc)/\wr.cell? ⟨w.heap.size,2,none⟩=some (.int .i64 mz)/\wr.cell? ⟨w.heap.size,3,none⟩=some (.int .u32 (C:Int))/\Below w.heap.size w wr:=HS.out;clear hbw;go_wp2_with fail;clear x0 x1 x2 x3
    go_region_held3 (fun W=>W.cell? ⟨w.heap.size,0,none⟩=some (.int .i64 mv)/\W.cell? ⟨w.heap.size,1,none⟩=some (.slice fa k fc)/\W.cell? ⟨w.heap.size,2,none⟩=some (.int .i64 mz)/\W.cell? ⟨w.heap.size,3,none⟩=some (.int .u32 (C:Int))/\Below w.heap.size w W) (first | assumption | exact zeM (by assumption) (Below.refl _ _).drew | exact zeM (by assumption) (by assumption)) (first | (go_at_call 143;refine (put_any mz _ (by omega) (by omega)).mono ?_;rintro e w6 ⟨rfl,b6⟩) | (go_at_call 145;refine (ziN C _ hC2).mono ?_;rintro e w7 ⟨rfl,b7⟩) | (go_at_call 144;refine (F.out _).mono ?_;rintro e w8 ⟨rfl,b8⟩))
    go_wp2_with fail;go_ret2;rename_i qq;exact ⟨rfl,keep4r qq⟩
theorem put10_any (fa:Option Addr) (fn fc:Nat) (m:Mn) (w:World) (hv:IsL IL w (.slice fa fn fc) m.l) (hB:MnB m):
 Calls Tryz.prog 126 #[mnVal fa fn fc m] w fun e w'=>e= .returned (putVal10 m)/\Below w.heap.size w w':=by
 by_cases h:Ok m
 · exact zkJ fa fn fc m w hv h
 · exact put10_no fa fn fc m w hv hB h
end Mfs
end Go.Proofs.YtgmppfpllogdcaaGreat

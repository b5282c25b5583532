/-
  Parts of what the laws of this seat stand on:MrPut,MrPlain,MrNum.
-/
import Derived.Test.YtooipogbmfkeeaaGreatQr1
import Derived.Deep.Heap
import Derived.Laws.BitsAllLaws
import Derived.Test.YtooipogbmfkeeaaGreatQr14
import Derived.Test.YtooipogbmfkeeaaGreatQr15
import Derived.Test.YtooipogbmfkeeaaGreatQr16
import Derived.Test.YtooipogbmfkeeaaGreatQr17
import Derived.Test.YtooipogbmfkeeaaGreatQr2
import Derived.Test.YtooipogbmfkeeaaGreatQr36
set_option maxRecDepth 100000
set_option maxHeartbeats 6400000
namespace Go.Proofs.YtooipogbmfkeeaaGreat
namespace Mfs
open Go.RowKit Qm
theorem put10_no (fa:Option Addr) (fn fc:Nat) (m:Mn) (w:World) (hv:IsL IL w (.slice fa fn fc) m.l) (hB:MnB m) (h:¬Ok m):
 Calls Tryz.prog 142 #[mnVal fa fn fc m] w fun e w'=>e= .returned (putVal10 m)/\Below w.heap.size w w':=by
 unfold putVal10;rw [putM_no h];dsimp only;have HA:=zid ((Below.refl w.heap.size w).alloc (Nat.le_refl _) (.cells #[.int .i64 m.v,.slice fa fn fc,.int .i64 m.z,.int .u32 m.c] 65));have RR:=zcB fa fn fc m false _ (hv.keep HA.out) hB ⟨(fun h=>by cases h),fun hk=>absurd hk h⟩;unfold mnVal at*;replace RR:=zid RR;obtain ⟨mv,ml,mz,mc⟩:=m;dsimp only at*;clear hv h
 go_enter Tryz.func142,Tryz.ntmps142
 go_wp2_with fail;refine RR.out.mono ?_;rintro e w1 ⟨rfl,b1⟩;have B1:=zid (HA.out.trans (b1.mono HA.out.size));clear b1;go_wp2_with fail;go_ret2;exact ⟨rfl,B1.out⟩
theorem zk0 (fa:Option Addr) (fn fc:Nat) (m:Mn) (w:World) (hv:IsL IL w (.slice fa fn fc) m.l) (h:Ok m):
 Calls Tryz.prog 142 #[mnVal fa fn fc m] w fun e w'=>e= .returned (putVal10 m)/\Below w.heap.size w w':=by
 unfold putVal10;rw [putM_yes h];dsimp only;have hnn:=zbl h
 have hB:MnB m:=⟨⟨by have:=h.v0;omega,by have:=h.v1;omega⟩,by rcases h.z with ⟨_,h1,_⟩ | ⟨_,h1,h2⟩<;>omega,h.c⟩
 have HA:=zid ((Below.refl w.heap.size w).alloc (Nat.le_refl _) (.cells #[.int .i64 m.v,.slice fa fn fc,.int .i64 m.z,.int .u32 m.c] 65));have G0:=zid (heap_alloc_new w (.cells #[.int .i64 m.v,.slice fa fn fc,.int .i64 m.z,.int .u32 m.c] 65));have RR:=zcB fa fn fc m true _ (hv.keep HA.out) hB ⟨fun _=>h,fun _=>rfl⟩;unfold mnVal at*;replace RR:=zid RR;have HV:=zid hv;have hfl:=hv.len.1;obtain ⟨C,hC⟩:∃C:Nat,m.c=(C:Int):=⟨m.c.toNat,by have:=h.c;omega⟩
 have hC2:C<4294967296:=by have:=h.c;omega
 have hv0:=h.v0;have hv1:=h.v1
 have hn0:fn<=64:=by rw [hfl];exact h.n1
 have hz0:0<=m.z/\m.z<=65536:=by rcases h.z with ⟨_,h1,_⟩ | ⟨_,h1,h2⟩<;>omega
 have HL:=zid fun i (hi:i<fn)=>hnn (m.l.getD i 0) (by
  unfold nums;rw [hfl] at hi
  have e:m.l.getD i 0=m.l[i]:=by simp [List.getD_eq_getElem?_getD,hi]
  rw [e]
  simp)
 have HTK:=zid fun i (hi:i<fn)=>(show m.l.take (i+1)=m.l.take i++[m.l.getD i 0] from zbQ (by rw [<-hfl];exact hi))
 have HFR:=zid fun (B:ByteArray) (hb:B.data.toList=body m) (W:World)=>(show Calls Tryz.prog 158 #[.string B] W fun e w'=>e= .returned (.tuple #[.string ⟨(Fr.fr (body m)).toArray⟩,.int .i64 0])/\Below W.heap.size W w' from by
  have hs:B.size=(body m).length:=by rw [<-hb];rfl
  have:=fput_yes B W (by rw [hs];exact body_may h);rw [hb] at this
  exact this)
 have HBD:=zid (show ∀R,R=puts (m.v::(fn:Int)::m.l.take fn)->(⟨R.toArray⟩++⟨(putI m.z).toArray⟩++⟨(zeF C).toArray⟩:ByteArray).data.toList=body m from fun R hR=>by
  subst hR;have e1:m.l.take fn=m.l:=List.take_of_length_le (by rw [hfl];exact Nat.le_refl _);rw [e1,zcV hz0.1];show puts (m.v::(fn:Int)::m.l)++Vp.put m.z.toNat++zeF C=_;unfold body nums;rw [hC,show ((C:Int)).toNat=C from by omega,show (m.v::(m.l.length:Int)::(m.l++[m.z]))=(m.v::(m.l.length:Int)::m.l)++[m.z] from rfl,zan,zb7,hfl]
  rfl)
 obtain ⟨mv,ml,mz,mc⟩:=m;dsimp only at*;subst hC;clear hv h hnn hfl;have hpl:(putI mz).length<=9:=za6 _;have hp1:(putI mv).length<=9:=za6 _;have hp2:(putI (fn:Int)).length<=9:=za6 _
 have s1:¬9223372036854775807<(putI mv).length+(putI (fn:Int)).length:=by omega
 have HP0:=zid (show (⟨(putI mv).toArray⟩++⟨(putI (fn:Int)).toArray⟩:ByteArray)=⟨(puts (mv::(fn:Int)::ml.take 0)).toArray⟩ by
  rw [ByteArray.mk_append_mk,zcV (by omega),zcV (by omega),List.take_zero,zbt,zbt,ziP,List.append_nil])
 go_enter Tryz.func142,Tryz.ntmps142
 go_wp2_with fail;refine RR.out.mono ?_;rintro e w1 ⟨rfl,b1⟩;have G1:=zid ((b1.block w.heap.size (Array.getElem?_eq_some_iff.1 G0.out).1).trans G0.out);have B1:=HA.out.trans (b1.mono HA.out.size);obtain ⟨x0,x1,x2,x3⟩:=cells4 G1.out;have ST:w1.cell? ⟨w.heap.size,0,none⟩=some (.int .i64 mv)/\w1.cell? ⟨w.heap.size,1,none⟩=some (.slice fa fn fc)/\w1.cell? ⟨w.heap.size,2,none⟩=some (.int .i64 mz)/\w1.cell? ⟨w.heap.size,3,none⟩=some (.int .u32 (C:Int))/\Below w.heap.size w w1:=⟨x0,x1,x2,x3,B1⟩;clear b1 x0 x1 x2 x3 B1 G0 HA RR;go_wp2_with fail
 go_region_held3 (fun W=>W.cell? ⟨w.heap.size,0,none⟩=some (.int .i64 mv)/\W.cell? ⟨w.heap.size,1,none⟩=some (.slice fa fn fc)/\W.cell? ⟨w.heap.size,2,none⟩=some (.int .i64 mz)/\W.cell? ⟨w.heap.size,3,none⟩=some (.int .u32 (C:Int))/\Below w.heap.size w W) (first | assumption | exact zeZ (by assumption) (Below.refl _ _).drew | exact zeZ (by assumption) (by assumption)) (first | (go_at_call 157;refine (put_any _ _ (by omega) (by omega)).mono ?_;rintro e w4 ⟨rfl,b4⟩))
 rename_i qq;have HS4:=zid qq;obtain ⟨x0,x1,x2,x3,hbx⟩:=qq;clear ST hbx;go_wp2_with fail;clear x0 x1 x2 x3
 go_loopw [4,21] (fun s i wr=>∃(k:Nat) (R:List UInt8),k<=fn/\i= .int .i64 k/\s= .string ⟨R.toArray⟩/\R=puts (mv::(fn:Int)::ml.take k)/\R.length<=9*(k+2)/\Hid (wr.cell? ⟨w.heap.size,0,none⟩=some (.int .i64 mv)/\wr.cell? ⟨w.heap.size,1,none⟩=some (.slice fa fn fc)/\wr.cell? ⟨w.heap.size,2,none⟩=some (.int .i64 mz)/\wr.cell? ⟨w.heap.size,3,none⟩=some (.int .u32 (C:Int))/\Below w.heap.size w wr))
  (fun _ i _=>fn-(intOf i).toNat)
 case atStart=>exact ⟨0,puts (mv::(fn:Int)::ml.take 0),Nat.zero_le _,rfl,by rw [HP0.out],rfl,by have:=puts_le (mv::(fn:Int)::ml.take 0);simp at this ⊢;omega,HS4⟩
 case round=>
  obtain ⟨k,R,hk,rfl,rfl,hR,hRl,HS⟩:=hrel;have HR:=zid hR;obtain ⟨x0,x1,x2,x3,hbw⟩:=HS.out;clear hR
  by_cases hlt:k<fn
  · obtain ⟨g,off,rfl,c0⟩:=il_at (HV.out.keep hbw) hlt
    obtain ⟨hf0,hf1⟩:=HL.out k hlt
    have HRS:=zid (show puts (mv::(fn:Int)::ml.take (k+1))=puts (mv::(fn:Int)::ml.take k)++Vp.put (ml.getD k 0).toNat by
     rw [HTK.out k hlt,show (mv::(fn:Int)::(ml.take k++[ml.getD k 0]))=(mv::(fn:Int)::ml.take k)++[ml.getD k 0] from rfl,zan,zb7])
    generalize ml.getD k 0=f at*;have P:=fun W:World=>put_any f W (by omega) (by omega);rw [zcV hf0] at P;replace P:=zid P;have hp9:=zfL f.toNat;generalize Vp.put f.toNat=pf at*
    have s2:¬9223372036854775807<R.length+pf.length:=by omega
    clear hbw;go_wp2_with fail;refine (P.out _).mono ?_;rintro e w5 ⟨rfl,b5⟩;have HS5:=zid (zeZ HS.out b5);clear b5 x0 x1 x2 x3;go_wp2_with fail
    go_roundw
    case rel=>exact ⟨k+1,R++pf,by omega,by go_num,congrArg Value.string (ByteArray.mk_append_mk R pf),by rw [HRS.out, <-HR.out],by rw [List.length_append];omega,HS5⟩
    case measure=>simp [intOf];omega
  · obtain rfl:k=fn:=by omega
    have F:=HFR.out _ (HBD.out R HR.out)
    have s2:¬9223372036854775807<R.length+(putI mz).length:=by omega
    have s3:¬9223372036854775807<R.length+(putI mz).length+(zeF C).length:=by have:(zeF C).length=4:=rfl;omega
    replace F:=zid F;have ST2:wr.cell? ⟨w.heap.size,0,none⟩=some (.int .i64 mv)/\wr.cell? ⟨w.heap.size,1,none⟩=some (.slice fa k fc)/\wr.cell? ⟨w.heap.size,2,none⟩=some (.int .i64 mz)/\wr.cell? ⟨w.heap.size,3,none⟩=some (.int .u32 (C:Int))/\Below w.heap.size w wr:=HS.out;clear hbw;go_wp2_with fail;clear x0 x1 x2 x3
    go_region_held3 (fun W=>W.cell? ⟨w.heap.size,0,none⟩=some (.int .i64 mv)/\W.cell? ⟨w.heap.size,1,none⟩=some (.slice fa k fc)/\W.cell? ⟨w.heap.size,2,none⟩=some (.int .i64 mz)/\W.cell? ⟨w.heap.size,3,none⟩=some (.int .u32 (C:Int))/\Below w.heap.size w W) (first | assumption | exact zeZ (by assumption) (Below.refl _ _).drew | exact zeZ (by assumption) (by assumption)) (first | (go_at_call 157;refine (put_any mz _ (by omega) (by omega)).mono ?_;rintro e w6 ⟨rfl,b6⟩) | (go_at_call 122;refine (zfZ C _ hC2).mono ?_;rintro e w7 ⟨rfl,b7⟩) | (go_at_call 158;refine (F.out _).mono ?_;rintro e w8 ⟨rfl,b8⟩))
    go_wp2_with fail;go_ret2;rename_i qq;exact ⟨rfl,keep4r qq⟩
theorem put10_any (fa:Option Addr) (fn fc:Nat) (m:Mn) (w:World) (hv:IsL IL w (.slice fa fn fc) m.l) (hB:MnB m):
 Calls Tryz.prog 142 #[mnVal fa fn fc m] w fun e w'=>e= .returned (putVal10 m)/\Below w.heap.size w w':=by
 by_cases h:Ok m
 · exact zk0 fa fn fc m w hv h
 · exact put10_no fa fn fc m w hv hB h
end Mfs
namespace Qm
def numR (l:List UInt8) (b:Bool):Int×List UInt8×Bool:=
 match Vp.take l with
 | none=>(0,l,true)
 | some (n,j)=>((n:Int),l.drop j,b)
theorem zes {l:List UInt8} {b:Bool} (h:Vp.take l=none):numR l b=(0,l,true):=by unfold numR;rw [h]
theorem zdD {l:List UInt8} {b:Bool} {n j:Nat} (h:Vp.take l=some (n,j)):numR l b=((n:Int),l.drop j,b):=by unfold numR;rw [h]
theorem zdr (l:List UInt8) (b:Bool):0<=(numR l b).1/\(numR l b).1<=9223372036854775807/\(numR l b).2.1.length<=l.length:=by
 rcases h:Vp.take l with _ | ⟨n,j⟩
 · rw [zes h];exact ⟨Int.le_refl _,show (0:Int)<=9223372036854775807 by decide,Nat.le_refl _⟩
 · rw [zdD h]
   obtain ⟨_,_,_,h4⟩:=Vp.take_some h
   refine ⟨by show (0:Int)<=(n:Int);omega,by show (n:Int)<=_;omega,by rw [List.length_drop];omega⟩
theorem zfO {l r:List UInt8} {b:Bool} {x:Int} (h:numR l b=(x,r,false)):b=false/\l=puts [x]++r:=by
 rcases ht:Vp.take l with _ | ⟨n,j⟩
 · rw [zes ht] at h
   injection h with _ h;injection h with _ h
   cases h
 · rw [zdD ht] at h
   injection h with h1 h;injection h with h2 h3
   refine ⟨h3,?_⟩;rw [zb7, <-h1, <-h2,Int.toNat_natCast,Vp.put_take ht,List.take_append_drop]
theorem zd7 {x:Int} (h:0<=x/\x<=1099511627776) (r:List UInt8) (b:Bool):numR (puts [x]++r) b=(x,r,b):=by
 have:=Vp.take_put x.toNat r (by omega);rw [zb7,zdD this,List.drop_left' rfl,show ((x.toNat:Nat):Int)=x from by omega]
def segR:Nat->List UInt8->Bool->List Int×List UInt8×Bool
 | 0,l,b=>([],l,b)
 | k+1,l,b=>((segR k l b).1++[(numR (segR k l b).2.1 (segR k l b).2.2).1],(numR (segR k l b).2.1 (segR k l b).2.2).2.1,(numR (segR k l b).2.1 (segR k l b).2.2).2.2)
theorem zfE (l:List UInt8) (b:Bool):∀k,(segR k l b).1.length=k
 | 0=>rfl
 | k+1=>by show ((segR k l b).1++[_]).length=_;rw [List.length_append,zfE l b k];rfl
theorem zfF (l:List UInt8) (b:Bool):∀k,(∀x∈(segR k l b).1,0<=x/\x<=9223372036854775807)/\(segR k l b).2.1.length<=l.length
 | 0=>⟨by simp [segR],Nat.le_refl _⟩
 | k+1=>by
  obtain ⟨h1,h2⟩:=zfF l b k;obtain ⟨h3,h4,h5⟩:=zdr (segR k l b).2.1 (segR k l b).2.2;refine ⟨fun x hx=>?_,Nat.le_trans h5 h2⟩;have hx':x∈(segR k l b).1++[(numR (segR k l b).2.1 (segR k l b).2.2).1]:=hx;rw [List.mem_append,List.mem_singleton] at hx'
  rcases hx' with hx' | rfl
  · exact h1 x hx'
  · exact ⟨h3,h4⟩
theorem zkA (l:List UInt8) (b:Bool):∀k,(segR k l b).2.2=false->b=false/\l=puts (segR k l b).1++(segR k l b).2.1
 | 0,h=>⟨h,rfl⟩
 | k+1,h=>by
  have h':(numR (segR k l b).2.1 (segR k l b).2.2).2.2=false:=h;obtain ⟨h1,h2⟩:=zfO (x:=(numR (segR k l b).2.1 (segR k l b).2.2).1) (r:=(numR (segR k l b).2.1 (segR k l b).2.2).2.1) (by rw [<-h']);obtain ⟨h3,h4⟩:=zkA l b k h1;refine ⟨h3,?_⟩;show l=puts ((segR k l b).1++[_])++(numR (segR k l b).2.1 (segR k l b).2.2).2.1;rw [zan,List.append_assoc, <-h2];exact h4
theorem ziL {L:List Int} (h:∀x∈L,0<=x/\x<=1099511627776) (r:List UInt8) (b:Bool):∀k,k<=L.length->segR k (puts L++r) b=(L.take k,puts (L.drop k)++r,b)
 | 0,_=>rfl
 | k+1,hk=>by
  have ih:=ziL h r b k (by omega);have e:L.drop k=L[k]::L.drop (k+1):=List.drop_eq_getElem_cons (by omega)
  have hn:numR (puts (L.drop k)++r) b=(L[k],puts (L.drop (k+1))++r,b):=by
   rw [e,show L[k]::L.drop (k+1)=[L[k]]++L.drop (k+1) from rfl,zan,List.append_assoc];exact zd7 (h _ (List.getElem_mem _)) _ _
  show (_,_,_)=_;rw [ih];dsimp only;rw [hn,List.take_succ_eq_append_getElem (by omega)]
def zbD (l:List UInt8) (b:Bool):List Int×List UInt8×Bool:=
 if 64<(numR l b).1 then ([],(numR l b).2.1,true) else segR (numR l b).1.toNat (numR l b).2.1 (numR l b).2.2
theorem segsR_in (l:List UInt8) (b:Bool):(∀x∈(zbD l b).1,0<=x/\x<=9223372036854775807)/\(zbD l b).2.1.length<=l.length:=by
 obtain ⟨_,_,h5⟩:=zdr l b;unfold zbD
 split
 · exact ⟨by simp,h5⟩
 · obtain ⟨h1,h2⟩:=zfF (numR l b).2.1 (numR l b).2.2 (numR l b).1.toNat
   exact ⟨h1,Nat.le_trans h2 h5⟩
theorem segsR_ok {l:List UInt8} {b:Bool} (h:(zbD l b).2.2=false):b=false/\l=puts (((zbD l b).1.length:Int)::(zbD l b).1)++(zbD l b).2.1:=by
 obtain ⟨h0,_,_⟩:=zdr l b;unfold zbD at h ⊢
 split at h
 · cases h
 · rename_i hn
   rw [if_neg hn]
   obtain ⟨h1,h2⟩:=zkA _ _ _ h;obtain ⟨h3,h4⟩:=zfO (l:=l) (b:=b) (x:=(numR l b).1) (r:=(numR l b).2.1) (by rw [<-h1]);refine ⟨h3,?_⟩;rw [zfE,show (((numR l b).1.toNat:Nat):Int)=(numR l b).1 from by omega,zbt,List.append_assoc, <-h2];rw [zb7] at h4;exact h4
theorem zkz {L:List Int} (hl:L.length<=64) (h:∀x∈L,0<=x/\x<=1099511627776) (r:List UInt8) (b:Bool):zbD (puts ((L.length:Int)::L)++r) b=(L,r,b):=by
 have hn:numR (puts ((L.length:Int)::L)++r) b=((L.length:Int),puts L++r,b):=by
  rw [show ((L.length:Int)::L)=[(L.length:Int)]++L from rfl,zan,List.append_assoc];exact zd7 ⟨by omega,by omega⟩ _ _
 unfold zbD;rw [hn];dsimp only;rw [if_neg (by omega),Int.toNat_natCast,ziL h r b L.length (Nat.le_refl _),List.take_length,List.drop_length]
 rfl
def val4 (l:List UInt8):Nat:=(l.getD 0 0).toNat+256*(l.getD 1 0).toNat+65536*(l.getD 2 0).toNat+16777216*(l.getD 3 0).toNat
theorem zkk (l:List UInt8):val4 l<4294967296:=by
 unfold val4;have:=(l.getD 0 0).toNat_lt;have:=(l.getD 1 0).toNat_lt;have:=(l.getD 2 0).toNat_lt;have:=(l.getD 3 0).toNat_lt;omega
def sumR (l:List UInt8) (b:Bool):Int×List UInt8×Bool:=if l.length<4 then (0,l,true) else ((val4 l:Int),l.drop 4,b)
theorem sumR_in (l:List UInt8) (b:Bool):0<=(sumR l b).1/\(sumR l b).1<4294967296:=by
 unfold sumR
 split
 · exact ⟨Int.le_refl _,show (0:Int)<4294967296 by decide⟩
 · have:=zkk l
   exact ⟨by show (0:Int)<=(val4 l:Int);omega,by show (val4 l:Int)<_;omega⟩
theorem zjb (l:List UInt8) (h:4<=l.length):Fr.four (val4 l)=l.take 4:=by
 match l,h with
 | a::b::c::d::t,_=>
  have:=a.toNat_lt;have:=b.toNat_lt;have:=c.toNat_lt;have:=d.toNat_lt;have e:val4 (a::b::c::d::t)=a.toNat+256*b.toNat+65536*c.toNat+16777216*d.toNat:=rfl
  have h0:(a.toNat+256*b.toNat+65536*c.toNat+16777216*d.toNat)%256=a.toNat:=by omega
  have h1:(a.toNat+256*b.toNat+65536*c.toNat+16777216*d.toNat)/256%256=b.toNat:=by omega
  have h2:(a.toNat+256*b.toNat+65536*c.toNat+16777216*d.toNat)/65536%256=c.toNat:=by omega
  have h3:(a.toNat+256*b.toNat+65536*c.toNat+16777216*d.toNat)/16777216=d.toNat:=by omega
  unfold Fr.four;rw [e,h0,h1,h2,h3]
  simp
theorem sumR_ok {l:List UInt8} {b:Bool} (h:(sumR l b).2.2=false):b=false/\l=Fr.four (sumR l b).1.toNat++(sumR l b).2.1:=by
 unfold sumR at h ⊢
 split at h
 · cases h
 · rename_i hn
   rw [if_neg hn]
   refine ⟨h,?_⟩;rw [Int.toNat_natCast,zjb l (by omega)];exact (List.take_append_drop 4 l).symm
theorem sumR_put {c:Int} (hc:0<=c/\c<4294967296) (r:List UInt8) (b:Bool):sumR (Fr.four c.toNat++r) b=(c,r,b):=by
 have hl:(Fr.four c.toNat++r).length=4+r.length:=by rw [List.length_append,Fr.four_len]
 unfold sumR;rw [if_neg (by omega),List.drop_left' (Fr.four_len _)];have h1:=zjb (Fr.four c.toNat++r) (by omega);rw [List.take_left' (Fr.four_len _)] at h1;have h2:=Fr.four_inj (zkk _) (by omega) h1;rw [h2,show ((c.toNat:Nat):Int)=c from by omega]
def manR (l:List UInt8) (b:Bool):Mn×List UInt8×Bool:=
 let x:=numR l b
 let y:=zbD x.2.1 x.2.2
 let z:=numR y.2.1 y.2.2
 let u:=sumR z.2.1 z.2.2
 (⟨x.1,y.1,z.1,u.1⟩,u.2.1,u.2.2)
theorem manR_ok {l:List UInt8} {b:Bool} (h:(manR l b).2.2=false):l=body (manR l b).1++(manR l b).2.1:=by
 unfold manR at h ⊢;dsimp only at h ⊢;obtain ⟨h1,e1⟩:=sumR_ok h;obtain ⟨h2,e2⟩:=zfO (x:=(numR (zbD (numR l b).2.1 (numR l b).2.2).2.1 (zbD (numR l b).2.1 (numR l b).2.2).2.2).1) (r:=(numR (zbD (numR l b).2.1 (numR l b).2.2).2.1 (zbD (numR l b).2.1 (numR l b).2.2).2.2).2.1) (l:=(zbD (numR l b).2.1 (numR l b).2.2).2.1) (b:=(zbD (numR l b).2.1 (numR l b).2.2).2.2) (by rw [<-h1]);obtain ⟨h3,e3⟩:=segsR_ok h2;obtain ⟨_,e4⟩:=zfO (x:=(numR l b).1) (r:=(numR l b).2.1) (l:=l) (b:=b) (by rw [<-h3]);unfold body nums;dsimp only;rw [show ∀(a n:Int) (t:List Int) (z:Int),a::n::(t++[z])=[a]++((n::t)++[z]) from fun _ _ _ _=>rfl,zan,zan,List.append_assoc,List.append_assoc,List.append_assoc, <-e1, <-e2, <-e3];exact e4
theorem manR_put {m:Mn} (h:Ok m):manR (body m) false=(m,[],false):=by
 have hnn:=zbl h
 have e:body m=puts [m.v]++(puts ((m.l.length:Int)::m.l)++(puts [m.z]++(Fr.four m.c.toNat++[]))):=by
  unfold body nums;rw [show m.v::(m.l.length:Int)::(m.l++[m.z])=[m.v]++(((m.l.length:Int)::m.l)++[m.z]) from rfl,zan,zan,List.append_assoc,List.append_assoc,List.append_nil]
 unfold manR;dsimp only;rw [e,zd7 (hnn _ mcs)];dsimp only;rw [zkz h.n1 (fun x hx=>hnn x (by unfold nums;simp [hx]))];dsimp only;rw [zd7 (hnn _ (by unfold nums;simp))];dsimp only;rw [sumR_put h.c]
theorem getM_no2 {s:List UInt8} {j:Nat} {b:List UInt8} (h:Fr.nx s=(0,j,b)) (hbad:(manR b false).2.2=true\/(manR b false).2.1≠[]\/j<s.length\/ ¬Ok (manR b false).1):getM s=(zero,3):=by
 refine zlH h fun ⟨m,hm,e⟩=>?_;subst e;have h1:=Fr.nx_fr (body m) [] (body_may hm);rw [List.append_nil,h] at h1
 injection h1 with _ h1;injection h1 with hj hb
 subst hb;rw [manR_put hm] at hbad
 rcases hbad with hb | hb | hb | hb
 · cases hb
 · exact hb rfl
 · omega
 · exact hb hm
theorem zlG {s:List UInt8} {j:Nat} {b:List UInt8} (h:Fr.nx s=(0,j,b)) (h1:(manR b false).2.2=false) (h2:(manR b false).2.1=[]) (h3:¬j<s.length) (h4:Ok (manR b false).1):getM s=((manR b false).1,0):=by
 rcases Fr.nx_cases s with ⟨e,he,hx⟩ | ⟨j',b',he,_,_,_,hf⟩
 · rw [h] at he
   injection he with he
   omega
 · rw [h] at he
   injection he with _ he;injection he with hj hb
   subst hj hb;have e:=manR_ok h1;rw [h2,List.append_nil] at e;rw [List.take_of_length_le (by omega)] at hf;rw [<-hf,e];rw [<-e];have:=getM_yes h4;rw [<-e] at this;exact this
end Qm
namespace Mfs
open Go.RowKit Qm
def RD (r:Nat) (l:List UInt8) (b:Bool) (w:World):Prop:=w.heap[r]?=some (.cells #[.string ⟨l.toArray⟩,.bool b] 134 (0,0))
theorem RD.cells {r:Nat} {l:List UInt8} {b:Bool} {w:World} (h:RD r l b w):w.cell? ⟨r,0,none⟩=some (.string ⟨l.toArray⟩)/\w.cell? ⟨r,1,none⟩=some (.bool b)/\w.frozen? ⟨r,0,none⟩=false/\w.frozen? ⟨r,1,none⟩=false:=
 ⟨by rw [cell_of_row _ _ 0 _ _ _ h];rfl,by rw [cell_of_row _ _ 1 _ _ _ h];rfl,by unfold World.frozen?;rw [h];rfl,by unfold World.frozen?;rw [h];rfl⟩
theorem RD.lt {r:Nat} {l:List UInt8} {b:Bool} {w:World} (h:RD r l b w):r<w.heap.size:=(Array.getElem?_eq_some_iff.1 h).1
theorem RD.keep {r:Nat} {l:List UInt8} {b:Bool} {w w':World} (h:RD r l b w) (k:Below w.heap.size w w'):RD r l b w':=(k.block r h.lt).trans h
theorem RD.rest {r:Nat} {l l':List UInt8} {b:Bool} {w:World} (h:RD r l b w):RD r l' b (w.setCell ⟨r,0,none⟩ (.string ⟨l'.toArray⟩)):=heap_setCell_same w r 0 _ _ _ h
theorem RD.bad {r:Nat} {l:List UInt8} {b b':Bool} {w:World} (h:RD r l b w):RD r l b' (w.setCell ⟨r,1,none⟩ (.bool b')):=heap_setCell_same w r 1 _ _ _ h
theorem zeB {w w1:World} (r:Nat) (h:Below w.heap.size w w1):w.grownBy w1 (some r):=⟨h.os,h.tape,h.output,h.size,fun k hk _=>h.block k hk⟩
theorem zaE {w w1 w2:World} {r:Nat} (h:w.grownBy w1 (some r)) (k:w1.grownBy w2 (some r)):w.grownBy w2 (some r):=
 ⟨k.os.trans h.os,k.tape.trans h.tape,k.output.trans h.output,Nat.le_trans h.size k.size,fun i hi hn=>(k.block i (Nat.lt_of_lt_of_le hi h.size) hn).trans (h.block i hi hn)⟩
theorem zaP (w:World) (r o:Nat) (u:Value):w.grownBy (w.setCell ⟨r,o,none⟩ u) (some r):=
 ⟨rfl,rfl,rfl,by simp,fun k _ hk=>heap_setCell_other w ⟨r,o,none⟩ k u (fun e=>hk (by simp [e]))⟩
def RdOut (r:Nat) (v:Value) (l:List UInt8) (b:Bool) (w:World) (e:Ending) (w':World):Prop:=e= .returned v/\RD r l b w'/\w.grownBy w' (some r)
theorem ze4 (s:ByteArray) (q:Nat) (w:World) (h:q<=s.size):(Instr.slice 9 (.string s) (some (.int .i64 (q:Int))) none none).run Tryz.prog w= .ok (.string (s.extract q s.size)) w:=by
 have:=run_slice_string_l (P:=Tryz.prog) (t:=9) (w:=w) (s:=s) (ht:=Tryz.underlying9) .i64 (q:Int) (by omega) (by omega);rw [this,Int.toNat_natCast]
theorem zdZ (l:List UInt8) (j:Nat):(⟨l.toArray⟩:ByteArray).extract j (⟨l.toArray⟩:ByteArray).size=⟨(l.drop j).toArray⟩:=(zga ⟨l.toArray⟩ j).symm
theorem zdf (r:Nat) (l:List UInt8) (b:Bool) (w:World) (h:RD r l b w) (hl:l.length<=140737488351232):
 Calls Tryz.prog 123 #[.pointer (some ⟨r,0,none⟩)] w (RdOut r (.int .i64 (numR l b).1) (numR l b).2.1 (numR l b).2.2 w):=by
 obtain ⟨B,hB⟩:∃B:ByteArray,(⟨l.toArray⟩:ByteArray)=B:=⟨_,rfl⟩
 have hz:B.size=l.length:=by rw [<-hB];exact zam l
 have R:=fun W:World=>read_any B ((0:Nat):Int) W (by omega)
 have hD:B.data.toList.drop 0=l:=by rw [<-hB];rfl
 obtain ⟨c0,c1,f0,f1⟩:=h.cells;have H:=zid h;rw [hB] at c0
 rcases ht:Vp.take l with _ | ⟨n,j⟩
 · rw [zcp (by rw [hD];exact ht)] at R
   rw [zes ht]
   dsimp only;replace R:=zid R;clear ht hD hB h
   go_enter Tryz.func123,Tryz.ntmps123
   go_wp2_with fail;refine (R.out _).mono ?_;rintro e w1 ⟨rfl,k,rfl⟩;have K:=zid (H.out.keep (zad k));obtain ⟨d0,d1,g0,g1⟩:=K.out.cells;have G:=zid (zeB r (zad (w:=w) k));go_wp2_with fail;go_ret;exact ⟨rfl,K.out.bad,zaE G.out (zaP _ _ _ _)⟩
 · obtain ⟨_,_,hj,_⟩:=Vp.take_some ht
   rw [za5 (q:=j) (by rw [hD];exact ht) (Nat.zero_add j)] at R
   rw [zdD ht];dsimp only;have HX:=zid (show B.extract j B.size=⟨(l.drop j).toArray⟩ by rw [<-hB];exact zdZ l j);replace R:=zid R
   have h1:(0:Int)<=(j:Int):=by omega
   have h2:(j:Int)<=(B.size:Int):=by omega
   have HB:=zid hB;have hs:=fun W:World=>ze4 B j W (by omega);rw [HX.out] at hs;clear ht hD hB h
   go_enter Tryz.func123,Tryz.ntmps123
   go_wp2_with fail;refine (R.out _).mono ?_;rintro e w1 ⟨rfl,k,rfl⟩;have K:=zid (H.out.keep (zad k));obtain ⟨d0,d1,g0,g1⟩:=K.out.cells;rw [HB.out] at d0;have G:=zid (zeB r (zad (w:=w) k));go_wp2_with fail;go_ret;exact ⟨rfl,K.out.rest,zaE G.out (zaP _ _ _ _)⟩
def up4 (l:List UInt8):Nat->Nat
 | 0=>0
 | k+1=>up4 l k+256^k*(l.getD k 0).toNat
theorem up4_all (l:List UInt8):up4 l 4=val4 l:=by
 unfold val4;show 0+256^0*(l.getD 0 0).toNat+256^1*(l.getD 1 0).toNat+256^2*(l.getD 2 0).toNat+256^3*(l.getD 3 0).toNat=_;omega
theorem up4_lt (l:List UInt8):∀k,up4 l k<256^k
 | 0=>Nat.zero_lt_one
 | k+1=>by
  have:=up4_lt l k;have:=(l.getD k 0).toNat_lt;show up4 l k+256^k*(l.getD k 0).toNat<256^(k+1);rw [Nat.pow_succ];have h:256^k*(l.getD k 0).toNat<=256^k*255:=Nat.mul_le_mul_left _ (by omega);omega
theorem or_up (a y k:Nat) (hk:k<4) (ha:a<256^k) (hy:y<256):bits .or .u32 (a:Int) ((y*256^k:Nat):Int)=((a+256^k*y:Nat):Int):=by
 have h1:256^k*y<=256^k*255:=Nat.mul_le_mul_left _ (by omega);have h2:256^k<=256^3:=Nat.pow_le_pow_right (by decide) (by omega)
 have e:(256:Nat)^k=2^(8*k):=by rw [Nat.pow_mul]
 rw [u32_or_nat a (y*256^k) (by omega) (by rw [Nat.mul_comm];omega)];rw [e,Nat.or_comm, <-Nat.shiftLeft_eq, <-Nat.shiftLeft_add_eq_or_of_lt (by rw [<-e];exact ha),Nat.shiftLeft_eq]
 congr 1
 rw [Nat.mul_comm,Nat.add_comm]
theorem zjw (r:Nat) (l:List UInt8) (b:Bool) (w:World) (h:RD r l b w) (hl:l.length<=140737488351232):
 Calls Tryz.prog 125 #[.pointer (some ⟨r,0,none⟩)] w (RdOut r (.int .u32 (sumR l b).1) (sumR l b).2.1 (sumR l b).2.2 w):=by
 obtain ⟨B,hB⟩:∃B:ByteArray,(⟨l.toArray⟩:ByteArray)=B:=⟨_,rfl⟩
 have hz:B.size=l.length:=by rw [<-hB];exact zam l
 obtain ⟨c0,c1,f0,f1⟩:=h.cells;have H:=zid h;rw [hB] at c0
 by_cases h4:l.length<4
 · unfold sumR
   rw [if_pos h4]
   dsimp only
   have h5:(B.size:Int)<4:=by omega
   clear hB h h4
   go_enter Tryz.func125,Tryz.ntmps125
   go_wp2_with fail;go_ret;exact ⟨rfl,H.out.bad,zaP _ _ _ _⟩
 · unfold sumR
   rw [if_neg h4]
   dsimp only
   have h5:decide ((B.size:Int)<4)=false:=by simp;omega
   have HX:=zid (show B.extract 4 B.size=⟨(l.drop 4).toArray⟩ by rw [<-hB];exact zdZ l 4);have hs:=fun W:World=>ze4 B 4 W (by omega);rw [HX.out] at hs
   have hB4:4<=B.size:=by omega
   have HG:=zid (show ∀k (hk:k<B.size),(B[k]'hk).toNat=(l.getD k 0).toNat from fun k hk=>by
    subst hB
    have hk':k<l.length:=by rw [<-zam l];exact hk
    rw [List.getD_eq_getElem?_getD,List.getElem?_eq_getElem hk']
    rfl)
   have HB:=zid hB;clear hB h h4 hz
   go_enter Tryz.func125,Tryz.ntmps125
   go_wp2_with fail
   go_loop [3,14] (fun s i=>∃k:Nat,k<=4/\i= .int .i64 k/\s= .int .u32 (up4 l k:Nat)) (fun _ i=>4-(intOf i).toNat)
   case atStart=>exact ⟨0,by omega,rfl,rfl⟩
   case round=>
    obtain ⟨k,hk,rfl,rfl⟩:=hrel
    have hc:k=4\/k<4:=by omega
    by_cases hlt:k<4
    · have hkB:k<B.size:=by omega
      have hg:=HG.out k hkB
      have hy:=(l.getD k 0).toNat_lt;have hu:=up4_lt l k;have HU:=zid (show up4 l (k+1)=up4 l k+256^k*(l.getD k 0).toNat from rfl);generalize (l.getD k 0).toNat=y at*;generalize up4 l k=a at*
      have hk4:k=0\/k=1\/k=2\/k=3:=by omega
      rcases hk4 with rfl | rfl | rfl | rfl
      · have HO:=zid (or_up a y 0 (by decide) hu hy)
        go_wp2_with fail
        go_round
        case rel=>exact ⟨1,by decide,rfl,congrArg (Value.int .u32) (by have h:=HO.out;rw [Nat.pow_zero,Nat.mul_one] at h;rw [HU.out,Nat.pow_zero];exact h)⟩
        case measure=>simp [intOf]
      · have HO:=zid (or_up a y 1 (by decide) hu hy)
        go_wp2_with fail
        go_round
        case rel=>exact ⟨2,by decide,rfl,congrArg (Value.int .u32) (by rw [HU.out];exact HO.out)⟩
        case measure=>simp [intOf]
      · have HO:=zid (or_up a y 2 (by decide) hu hy)
        go_wp2_with fail
        go_round
        case rel=>exact ⟨3,by decide,rfl,congrArg (Value.int .u32) (by rw [HU.out];exact HO.out)⟩
        case measure=>simp [intOf]
      · have HO:=zid (or_up a y 3 (by decide) hu hy)
        go_wp2_with fail
        go_round
        case rel=>exact ⟨4,by decide,rfl,congrArg (Value.int .u32) (by rw [HU.out];exact HO.out)⟩
        case measure=>simp [intOf]
    · obtain rfl:k=4:=by omega
      go_wp2_with fail
      go_ret;refine ⟨?_,?_,zaP _ _ _ _⟩
      · rw [up4_all];rfl
      · rw [HX.out];exact H.out.rest
end Mfs
end Go.Proofs.YtooipogbmfkeeaaGreat

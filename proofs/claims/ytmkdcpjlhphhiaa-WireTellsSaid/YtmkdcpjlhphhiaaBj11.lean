/-
  Parts of what the laws of this seat stand on:WirRecs,WirMsgP.
-/
import Derived.Test.YtmkdcpjlhphhiaaBj1
import Derived.Deep.OwnRows
import Derived.Test.YtmkdcpjlhphhiaaBj10
set_option maxRecDepth 100000
set_option maxHeartbeats 6400000
namespace Go.Proofs.Ytmkdcpjlhphhiaa
namespace Wr
open Go.RowKit Qm Wq Mfs
def offA (a:Int) (k:Nat):Int:=wrap64 (a+(k:Int))
theorem zfx (a:Int) (k:Nat): -9223372036854775808<=offA a k/\offA a k<=9223372036854775807:=by unfold offA wrap64;omega
theorem zfy {a:Int} {k:Nat} (h0:0<=a) (h1:a<=1099511627776) (hk:k<64):offA a k=a+(k:Int):=by unfold offA wrap64;omega
theorem zaB {r base n:Nat} {v:Value} {xs:List Value} {w w':World} (h:w.ownsRow base 41 3 v n xs) (hr:r<base) (g:w.grownBy w' (some r)):w'.ownsRow base 41 3 v n xs:=by
 refine h.kept g ?_
 rcases hb:v.ownBlock with _ | k
 · exact .inl rfl
 · exact .inr (fun e=>by injection e with e;have:=(h.lt k hb).1;omega)
theorem row_next {xs:List Rp.Rec} {rest:List Value} {m:Nat} (h:rest.length=(m+1)*3):∃c0 c1 c2 rest',rest=c0::c1::c2::rest'/\rest'.length=m*3/\
 (zaj xs++rest)[xs.length*3]?=some c0/\(zaj xs++rest)[xs.length*3+1]?=some c1/\(zaj xs++rest)[xs.length*3+2]?=some c2:=by
 rcases rest with _ | ⟨c0,_ | ⟨c1,_ | ⟨c2,rest'⟩⟩⟩
 · simp at h
 · simp at h;omega
 · simp at h;omega
 refine ⟨c0,c1,c2,rest',rfl,by simp at h;omega,?_,?_,?_⟩
 all_goals
  rw [<-zaX xs,List.getElem?_append_right (by omega)]
  simp
theorem zfj {xs:List Rp.Rec} {c0 c1 c2:Value} {rest:List Value} (r:Rp.Rec):(((zaj xs++c0::c1::c2::rest).set (xs.length*3) (.int .i64 r.a)).set (xs.length*3+1) (.int .i64 r.t)).set (xs.length*3+2) (.string r.d)=zaj (xs++[r])++rest:=by
 rw [<-zaX xs,zbj,List.set_append_right _ _ (Nat.le_refl _),Nat.sub_self,List.set_cons_zero,List.set_append_right _ _ (by omega),show (zaj xs).length+1-(zaj xs).length=1 by omega,List.set_cons_succ,List.set_cons_zero,
  List.set_append_right _ _ (by omega),show (zaj xs).length+2-(zaj xs).length=2 by omega,List.set_cons_succ,List.set_cons_succ,List.set_cons_zero,List.append_assoc]
 rfl
theorem zbI {w W:World} {r q:Nat} (g:w.grownBy W (some r)) (hq:w.heap.size<=q) (j:Nat) (u:Value):w.grownBy (W.setCell ⟨q,j,none⟩ u) (some r):=
 ⟨g.os,g.tape,g.output,by have:=g.size;simp only [World.setCell,Array.size_modify];exact this,fun i hi hn=>(Below.heap_setCell _ _ _ _ (by show i≠q;omega)).trans (g.block i hi hn)⟩
theorem WR.other {r q:Nat} {l:List UInt8} {b:Bool} {W:World} (h:WR r l b W) (hq:r≠q) (j:Nat) (u:Value):WR r l b (W.setCell ⟨q,j,none⟩ u):=(Below.heap_setCell _ _ _ _ hq).trans h
theorem zah (l:List UInt8) (b:Bool):(numR l b).2.1.length<=l.length:=(zaY l b).2.2
def RcOut (r:Nat) (L:List Rp.Rec) (l:List UInt8) (b:Bool) (w:World) (e:Ending) (w':World):Prop:=∃a n c,e= .returned (.slice a n c)/\zae w' (.slice a n c) L/\(∀q,(Value.slice a n c).ownBlock=some q->w.heap.size<=q)/\WR r l b w'/\w.grownBy w' (some r)
theorem ze4 (r:Nat) (a:Int) (l:List UInt8) (b:Bool) (w:World) (h:WR r l b w) (hl:l.length<=140737488351232):
 Calls Try.prog 46 #[.pointer (some ⟨r,0,none⟩),.int .i64 a] w (RcOut r (za3 (offA a) l b).1 (za3 (offA a) l b).2.1 (za3 (offA a) l b).2.2 w):=by
 have N:=zaG r l b w h hl;obtain ⟨n0,n1,n2⟩:=zaY l b;obtain ⟨i0,hi,hz0,hz1,hz2⟩:=info_parts zb5;unfold za3;obtain ⟨x,hx⟩:∃x,(numR l b).1=x:=⟨_,rfl⟩;obtain ⟨l1,hl1⟩:∃l1,(numR l b).2.1=l1:=⟨_,rfl⟩;obtain ⟨b1,hb1⟩:∃b1,(numR l b).2.2=b1:=⟨_,rfl⟩;rw [hx,hl1,hb1] at N;rw [hx] at n0 n1;rw [hl1] at n2;rw [hx,hl1,hb1];clear hx hl1 hb1
 have hl1:l1.length<=140737488351232:=by omega
 replace N:=zid N;have hrw:=h.lt;clear h n2 hl
 by_cases h64:64<x
 · rw [if_pos h64]
   dsimp only
   go_enter Try.func46,Try.ntmps46
   go_wp2_with fail;refine N.out.mono ?_;rintro e w1 ⟨rfl,h1,g1⟩;have H1:=zid h1;have G1:=zid g1;obtain ⟨c0,c1,f0,f1⟩:=h1.cells;clear h1 g1;go_wp2_with fail;go_ret;exact ⟨none,0,0,rfl,zae.nil _ _ _,fun q hq=>by simp [Value.ownBlock] at hq,H1.out.bad,zad G1.out (zaf _ _ _ _)⟩
 · rw [if_neg h64]
   obtain ⟨n,rfl⟩:∃n:Nat,x=(n:Int):=⟨x.toNat,by omega⟩
   rw [Int.toNat_natCast]
   have hn:n<=64:=by omega
   have h65:decide ((64:Int)<(n:Int))=false:=by simp;omega
   have HIN:=zid fun k=>zee (offA a) l1 b1 k;have SL:=zid (zcj (offA a) l1 b1);have HL1:=zid hl1;clear h64 n0 n1 hl1
   go_enter Try.func46,Try.ntmps46
   go_wp2_with fail;refine N.out.mono ?_;rintro e w1 ⟨rfl,h1,g1⟩;have H1:=zid h1;have G1:=zid g1;have hw1:=g1.size;clear h1 g1
   go_wp2_with (refine wpList_make_full _ rfl _ _ 23 rfl w1.heap.size 41 i0 (.agg #[.int .i64 0,.int .i64 0,.string ByteArray.empty]) 3 Try.underlying23 hi hz0 hz1 .i64 .i64 _ _ n rfl rfl rfl rfl (by rw [hz2];omega) (by unfold maxLen;omega) (Nat.le_refl _) ?_;intro w2 hown2 hgrow2;have HO2:=zid hown2;have HG2:=zid hgrow2;clear hown2 hgrow2)
   go_loopw [19] (fun i wr=>∃k:Nat,k<=n/\i= .int .i64 k/\WR r (zal (offA a) k l1 b1).2.1 (zal (offA a) k l1 b1).2.2 wr/\(∃rest,rest.length=(n-k)*3/\wr.ownsRow w1.heap.size 41 3 (.slice (some ⟨w1.heap.size,0,none⟩) n n) n (zaj (zal (offA a) k l1 b1).1++rest))/\w.grownBy wr (some r)) (fun i _=>n-(intOf i).toNat)
   case atStart=>
    refine ⟨0,Nat.zero_le _,rfl,(HG2.out.block r (Nat.lt_of_lt_of_le hrw hw1) (by simp)).trans H1.out,⟨_,?_,HO2.out⟩,zad G1.out ⟨HG2.out.os,HG2.out.tape,HG2.out.output,HG2.out.size,fun k hk _=>HG2.out.block k hk (by simp)⟩⟩;exact HO2.out.1
   case round=>
    obtain ⟨k,hk,rfl,hR,⟨rest,hrl,hO⟩,hG⟩:=hrel;have HR:=zid hR;have HG:=zid hG
    by_cases hlt:k<n
    · obtain ⟨m,hm⟩:∃m,n-k=m+1:=⟨n-k-1,by omega⟩
      rw [hm] at hrl
      obtain ⟨c0,c1,c2,rest',rfl,hrl',e0,e1,e2⟩:=row_next (xs:=(zal (offA a) k l1 b1).1) hrl;have ROW:=zid fun x=>zfj (xs:=(zal (offA a) k l1 b1).1) (c0:=c0) (c1:=c1) (c2:=c2) (rest:=rest') x;rw [SL.out k] at e0 e1 e2 ROW;have HO:=zid hO
      have z0:wr.cell? ⟨w1.heap.size,k*3,none⟩=some c0:=by
       have:=hO.cells (g:=w1.heap.size) rfl _ _ e0
       rwa [za7,Nat.zero_add] at this
      have f0:=hO.frozenAt (k*3);have HM:=zid hm;have HRL:=zid hrl';have HE1:=zid e1;have HE2:=zid e2;have HLK:=zid (Nat.le_trans (HIN.out k).2 HL1.out);have HNX:=zid (show zal (offA a) (k+1) l1 b1=((zal (offA a) k l1 b1).1++[(recR (offA a k) (zal (offA a) k l1 b1).2.1 (zal (offA a) k l1 b1).2.2).1],(recR (offA a k) (zal (offA a) k l1 b1).2.1 (zal (offA a) k l1 b1).2.2).2) from rfl);clear hR hO hG hrl hrl' e0 e1 e2 hm;generalize (zal (offA a) k l1 b1).1=xs at*;generalize (zal (offA a) k l1 b1).2.1=l0 at*;generalize (zal (offA a) k l1 b1).2.2=b0 at*;obtain ⟨y,hy⟩:∃y,offA a k=y:=⟨_,rfl⟩;rw [hy] at HNX;unfold offA at hy
      have hrg:r≠w1.heap.size:=by omega
      have P1:=zid (HR.out.other hrg (k*3) (.int .i64 y));have O1:=zid (HO.out.stored (k*3) (.int .i64 y)).1;have Q1:=zid (zbI HG.out hw1 (k*3) (.int .i64 y));go_wp2_with fail;generalize wr.setCell _ _=W1 at P1 O1 Q1 ⊢;refine (zaG r l0 b0 W1 P1.out HLK.out).mono ?_;rintro e w2 ⟨rfl,h2,g2⟩;have H2:=zid h2;have O2:=zid (zaB O1.out (by omega) g2);have Q2:=zid (zad Q1.out g2)
      have z1:w2.cell? ⟨w1.heap.size,k*3+1,none⟩=some c1:=by
       have:=O2.out.cells (g:=w1.heap.size) rfl (k*3+1) c1 (by rw [List.getElem?_set_ne (by omega)];exact HE1.out)
       rwa [za7,Nat.zero_add] at this
      have f1:=O2.out.frozenAt (k*3+1);have HLK2:=zid (Nat.le_trans (zah l0 b0) HLK.out);unfold recR at HNX;clear h2 g2 z0 f0 P1 O1 Q1;generalize (numR l0 b0).1=x1 at*;generalize (numR l0 b0).2.1=l2 at*;generalize (numR l0 b0).2.2=b2 at*;have P3:=zid (H2.out.other hrg (k*3+1) (.int .i64 x1));have O3:=zid (O2.out.stored (k*3+1) (.int .i64 x1)).1;have Q3:=zid (zbI Q2.out hw1 (k*3+1) (.int .i64 x1));go_wp2_with fail;generalize w2.setCell _ _=W3 at P3 O3 Q3 ⊢;refine (zaG r l2 b2 W3 P3.out HLK2.out).mono ?_;rintro e w4 ⟨rfl,h4,g4⟩;have H4:=zid h4;have O4:=zid (zaB O3.out (by omega) g4);have Q4:=zid (zad Q3.out g4);have HX4:=zid (zaY l2 b2);clear h4 g4 z1 f1 P3 O3 Q3;generalize (numR l2 b2).1=x4 at*;generalize (numR l2 b2).2.1=l4 at*;generalize (numR l2 b2).2.2=b4 at*;go_wp2_with fail;refine (zb9 r x4 l4 b4 w4 H4.out HX4.out.1).mono ?_;rintro e w5 ⟨rfl,h5,g5⟩;have H5:=zid h5;have O5:=zid (zaB O4.out (by omega) g5);have Q5:=zid (zad Q4.out g5)
      have z2:w5.cell? ⟨w1.heap.size,k*3+2,none⟩=some c2:=by
       have:=O5.out.cells (g:=w1.heap.size) rfl (k*3+2) c2 (by rw [List.getElem?_set_ne (by omega),List.getElem?_set_ne (by omega)];exact HE2.out)
       rwa [za7,Nat.zero_add] at this
      have f2:=O5.out.frozenAt (k*3+2);clear h5 g5;obtain ⟨T,hT⟩:∃T,zaE x4 l4 b4=T:=⟨_,rfl⟩;rw [hT] at HNX H5 ⊢;clear hT;obtain ⟨t5,l5,b5⟩:=T;dsimp only at HNX H5 ⊢;have P6:=zid (H5.out.other hrg (k*3+2) (.string ⟨t5.toArray⟩));have O6:=zid (O5.out.stored (k*3+2) (.string ⟨t5.toArray⟩)).1;have Q6:=zid (zbI Q5.out hw1 (k*3+2) (.string ⟨t5.toArray⟩));go_wp2_with fail;generalize w5.setCell _ _=W6 at P6 O6 Q6 ⊢
      go_roundw
      case rel=>
       refine ⟨k+1,by omega,by go_num,?_,⟨rest',?_,?_⟩,Q6.out⟩
       · rw [HNX.out];exact P6.out
       · rw [HRL.out];have:=HM.out;omega
       · rw [HNX.out, <-ROW.out ⟨y,x1,⟨t5.toArray⟩⟩];exact O6.out
      case measure=>simp [intOf];omega
    · obtain rfl:k=n:=by omega
      go_wp2_with fail
      go_ret;rw [Nat.sub_self,Nat.zero_mul] at hrl;obtain rfl:=List.length_eq_zero_iff.1 hrl;rw [List.append_nil] at hO;refine ⟨some ⟨w1.heap.size,0,none⟩,k,k,rfl,zae.own_ok hO (by unfold maxLen;omega) (fun x hx=>?_),fun q hq=>?_,HR.out,HG.out⟩
      · obtain ⟨⟨t1,t2,t3⟩,j,hj⟩:=(HIN.out k).1 x hx
        have:=zfx a j
        have:=HL1.out;exact ⟨by rw [hj];omega,by rw [hj];omega,by omega,by omega,by omega⟩
      · obtain rfl:w1.heap.size=q:=by simpa [Value.ownBlock] using hq
        exact hw1
theorem zdY (l:List Int) (h:∀x∈l,0<=x/\x<=9223372036854775807) (i:Nat):I64 (l.getD i 0):=by
 unfold I64;rw [List.getD_eq_getElem?_getD]
 rcases hq:l[i]? with _ | y
 · simp
 · have:=h y (List.mem_of_getElem? hq)
   simp
   omega
theorem tailR_B {m:Ms} (hB0:MsB m) (l:List UInt8) (b:Bool) (hl:l.length<=9223372036854775807):MsB (zaQ offA m l b).1:=by
 by_cases k1:m.k=1
 · rw [zbN k1]
   have g3:=zdY _ (zbP l b 3).1
   exact ⟨hB0.k,hB0.f,hB0.t,hB0.i,hB0.p,hB0.q,hB0.a,g3 0,hB0.h,g3 1,g3 2,hB0.z,hB0.s,hB0.d⟩
 by_cases k2:m.k=2
 · rw [zbv k2]
   have hn:=zaY l b
   exact ⟨hB0.k,hB0.f,hB0.t,hB0.i,hB0.p,hB0.q,hB0.a,hB0.wd,⟨by have:=hn.1;dsimp only;omega,hn.2.1⟩,hB0.wt,hB0.x,hB0.z,hB0.s,hB0.d⟩
 by_cases k3:m.k=3
 · rw [zbM k3]
   have g2:=zdY _ (zbP l b 2).1
   have hs:=sumR_in (segR 2 l b).2.1 (segR 2 l b).2.2;have h2:=(zbP l b 2).2
   have hs2:(sumR (segR 2 l b).2.1 (segR 2 l b).2.2).2.1.length<=(segR 2 l b).2.1.length:=by
    rw [zcf];exact (zcJ 4 _ _).2
   refine ⟨hB0.k,hB0.f,hB0.t,hB0.i,hB0.p,hB0.q,hB0.a,hB0.wd,hB0.h,hB0.wt,g2 1,g2 0,hs,?_⟩;dsimp only;rw [zai];omega
 · rw [zfb k1 k2 k3]
   exact hB0
theorem msgR_B (l:List UInt8) (b:Bool) (hl:l.length<=9223372036854775807):MsB (msgR offA l b).1:=by
 have g:=zdY _ (zbP l b 7).1
 have z0:I64 0:=by unfold I64;omega
 have hB0:MsB (m7 (segR 7 l b).1):=⟨g 0,g 1,g 2,g 3,g 4,g 5,g 6,z0,z0,z0,z0,z0,⟨Int.le_refl _,show (0:Int)<4294967296 by decide⟩,show (ByteArray.mk #[]).size<=9223372036854775807 by decide⟩;exact tailR_B hB0 _ _ (Nat.le_trans (zbP l b 7).2 hl)
theorem zaT {r n c:Nat} {a:Option Addr} {L:List Rp.Rec} {W W':World} (h:zae W (.slice a n c) L) (hn:∀q,(Value.slice a n c).ownBlock=some q->q≠r) (g:W.grownBy W' (some r)):zae W' (.slice a n c) L:=by
 obtain ⟨a',cap,e,h1,h2,h3⟩:=h
 injection e with e1 e2 e3
 subst e1 e2 e3;refine ⟨_,_,rfl,h1,h2,?_⟩
 rcases h3 with h3 | ⟨b,off,rfl,h4⟩
 · exact .inl h3
 · have hb:=hn b rfl
   refine .inr ⟨b,off,rfl,fun i hi=>?_⟩
   obtain ⟨c0,c1,c2⟩:=h4 i hi
   exact ⟨g.cell c0 (fun e=>by injection e with e;exact hb e),g.cell c1 (fun e=>by injection e with e;exact hb e),g.cell c2 (fun e=>by injection e with e;exact hb e)⟩
structure Mw (w:World) (r a:Nat) (cs:Array Value) (l:List UInt8) (b:Bool) (W:World):Prop where
 rd:WR r l b W
 res:W.heap[a]?=some (.cells #[.int .i64 0,.int .i64 0,.int .i64 0,.int .i64 0,.int .i64 0,.int .i64 0,.int .i64 0,.int .i64 0,.int .i64 0,.int .i64 0,.int .i64 0,.int .i64 0,.int .u32 0,.string ⟨#[]⟩,.slice none 0 0] 25 (0,0))
 box:W.heap[a+1]?=some (.cells cs 25 (0,0))
 gr:w.grownBy W (some r)
variable {w:World} {r a:Nat} {cs:Array Value} {l:List UInt8} {b:Bool} {W:World}
theorem Mw.start (w:World) {r:Nat} {l:List UInt8} {b:Bool} (h:WR r l b w):Mw w r w.heap.size #[.int .i64 0,.int .i64 0,.int .i64 0,.int .i64 0,.int .i64 0,.int .i64 0,.int .i64 0,.int .i64 0,.int .i64 0,.int .i64 0,.int .i64 0,.int .i64 0,.int .u32 0,.string ⟨#[]⟩,.slice none 0 0] l b ((w.alloc (.cells #[.int .i64 0,.int .i64 0,.int .i64 0,.int .i64 0,.int .i64 0,.int .i64 0,.int .i64 0,.int .i64 0,.int .i64 0,.int .i64 0,.int .i64 0,.int .i64 0,.int .u32 0,.string ⟨#[]⟩,.slice none 0 0] 25)).alloc (.cells #[.int .i64 0,.int .i64 0,.int .i64 0,.int .i64 0,.int .i64 0,.int .i64 0,.int .i64 0,.int .i64 0,.int .i64 0,.int .i64 0,.int .i64 0,.int .i64 0,.int .u32 0,.string ⟨#[]⟩,.slice none 0 0] 25)):=by
 have k1:=(Below.refl w.heap.size w).alloc (Nat.le_refl _) (.cells #[.int .i64 0,.int .i64 0,.int .i64 0,.int .i64 0,.int .i64 0,.int .i64 0,.int .i64 0,.int .i64 0,.int .i64 0,.int .i64 0,.int .i64 0,.int .i64 0,.int .u32 0,.string ⟨#[]⟩,.slice none 0 0] 25);have k2:=k1.alloc (by simp) (.cells #[.int .i64 0,.int .i64 0,.int .i64 0,.int .i64 0,.int .i64 0,.int .i64 0,.int .i64 0,.int .i64 0,.int .i64 0,.int .i64 0,.int .i64 0,.int .i64 0,.int .u32 0,.string ⟨#[]⟩,.slice none 0 0] 25);have g2:=heap_alloc_new (w.alloc (.cells #[.int .i64 0,.int .i64 0,.int .i64 0,.int .i64 0,.int .i64 0,.int .i64 0,.int .i64 0,.int .i64 0,.int .i64 0,.int .i64 0,.int .i64 0,.int .i64 0,.int .u32 0,.string ⟨#[]⟩,.slice none 0 0] 25)) (.cells #[.int .i64 0,.int .i64 0,.int .i64 0,.int .i64 0,.int .i64 0,.int .i64 0,.int .i64 0,.int .i64 0,.int .i64 0,.int .i64 0,.int .i64 0,.int .i64 0,.int .u32 0,.string ⟨#[]⟩,.slice none 0 0] 25);rw [show (w.alloc (.cells #[.int .i64 0,.int .i64 0,.int .i64 0,.int .i64 0,.int .i64 0,.int .i64 0,.int .i64 0,.int .i64 0,.int .i64 0,.int .i64 0,.int .i64 0,.int .i64 0,.int .u32 0,.string ⟨#[]⟩,.slice none 0 0] 25)).heap.size=w.heap.size+1 by simp] at g2;exact ⟨h.keep k2,(Below.heap_alloc _ _ _ (by simp)).trans (heap_alloc_new w _),g2,zax r k2⟩
theorem Mw.call (h:Mw w r a cs l b W) (hr:r<a) {l':List UInt8} {b':Bool} {W':World} (g:W.grownBy W' (some r)) (hrd:WR r l' b' W'):Mw w r a cs l' b' W':=
 ⟨hrd,(g.block a (Array.getElem?_eq_some_iff.1 h.res).1 (fun e=>by injection e with e;omega)).trans h.res,(g.block (a+1) (Array.getElem?_eq_some_iff.1 h.box).1 (fun e=>by injection e with e;omega)).trans h.box,zad h.gr g⟩
theorem Mw.put (h:Mw w r a cs l b W) (hr:r<a) (hw:a=w.heap.size) (j:Nat) (u:Value):Mw w r a (cs.setIfInBounds j u) l b (W.setCell ⟨a+1,j,none⟩ u):=
 ⟨h.rd.other (by omega) j u,(Below.heap_setCell _ _ _ _ (by show a≠a+1;omega)).trans h.res,heap_setCell_same W (a+1) j _ _ _ h.box,zbI h.gr (by omega) j u⟩
theorem Mw.lt (h:Mw w r a cs l b W):a+1<W.heap.size:=(Array.getElem?_eq_some_iff.1 h.box).1
theorem zbS (W:World) (a:Nat) (c0 c1 c2 c3 c4 c5 c6 c7 c8 c9 c10 c11 c12 c13 c14:Value):W.grownBy (((((((((((((((W.setCell ⟨a,0,none⟩ c0).setCell ⟨a,1,none⟩ c1).setCell ⟨a,2,none⟩ c2).setCell ⟨a,3,none⟩ c3).setCell ⟨a,4,none⟩ c4).setCell ⟨a,5,none⟩ c5).setCell ⟨a,6,none⟩ c6).setCell ⟨a,7,none⟩ c7).setCell ⟨a,8,none⟩ c8).setCell ⟨a,9,none⟩ c9).setCell ⟨a,10,none⟩ c10).setCell ⟨a,11,none⟩ c11).setCell ⟨a,12,none⟩ c12).setCell ⟨a,13,none⟩ c13).setCell ⟨a,14,none⟩ c14) (some a):=
 zad (zad (zad (zad (zad (zad (zad (zad (zad (zad (zad (zad (zad (zad (zaf W a 0 c0) (zaf _ a 1 c1)) (zaf _ a 2 c2)) (zaf _ a 3 c3)) (zaf _ a 4 c4)) (zaf _ a 5 c5)) (zaf _ a 6 c6)) (zaf _ a 7 c7)) (zaf _ a 8 c8)) (zaf _ a 9 c9)) (zaf _ a 10 c10)) (zaf _ a 11 c11)) (zaf _ a 12 c12)) (zaf _ a 13 c13)) (zaf _ a 14 c14)
theorem Mw.fin (h:Mw w r a cs l b W) (hr:r<a) (hw:a=w.heap.size) (c0 c1 c2 c3 c4 c5 c6 c7 c8 c9 c10 c11 c12 c13 c14:Value):
 WR r l b (((((((((((((((W.setCell ⟨a,0,none⟩ c0).setCell ⟨a,1,none⟩ c1).setCell ⟨a,2,none⟩ c2).setCell ⟨a,3,none⟩ c3).setCell ⟨a,4,none⟩ c4).setCell ⟨a,5,none⟩ c5).setCell ⟨a,6,none⟩ c6).setCell ⟨a,7,none⟩ c7).setCell ⟨a,8,none⟩ c8).setCell ⟨a,9,none⟩ c9).setCell ⟨a,10,none⟩ c10).setCell ⟨a,11,none⟩ c11).setCell ⟨a,12,none⟩ c12).setCell ⟨a,13,none⟩ c13).setCell ⟨a,14,none⟩ c14)/\w.grownBy (((((((((((((((W.setCell ⟨a,0,none⟩ c0).setCell ⟨a,1,none⟩ c1).setCell ⟨a,2,none⟩ c2).setCell ⟨a,3,none⟩ c3).setCell ⟨a,4,none⟩ c4).setCell ⟨a,5,none⟩ c5).setCell ⟨a,6,none⟩ c6).setCell ⟨a,7,none⟩ c7).setCell ⟨a,8,none⟩ c8).setCell ⟨a,9,none⟩ c9).setCell ⟨a,10,none⟩ c10).setCell ⟨a,11,none⟩ c11).setCell ⟨a,12,none⟩ c12).setCell ⟨a,13,none⟩ c13).setCell ⟨a,14,none⟩ c14) (some r):=by
 have g:=zbS W a c0 c1 c2 c3 c4 c5 c6 c7 c8 c9 c10 c11 c12 c13 c14
 refine ⟨(g.block r (by have:=h.lt;omega) (fun e=>by injection e with e;omega)).trans h.rd,⟨g.os.trans h.gr.os,g.tape.trans h.gr.tape,g.output.trans h.gr.output,Nat.le_trans h.gr.size g.size,fun k hk hn=>?_⟩⟩
 exact (g.block k (Nat.lt_of_lt_of_le hk h.gr.size) (fun e=>by injection e with e;omega)).trans (h.gr.block k hk hn)
def zda (r:Nat) (m:Ms) (l:List UInt8) (b:Bool) (w:World) (e:Ending) (w':World):Prop:=∃a n c,e= .returned (zag (.slice a n c) m)/\zae w' (.slice a n c) m.l/\(∀q,(Value.slice a n c).ownBlock=some q->w.heap.size<=q)/\WR r l b w'/\w.grownBy w' (some r)
theorem zew (r:Nat) (l:List UInt8) (b:Bool) (w:World) (h:WR r l b w) (hl:l.length<=140737488351232) (hk:(msgR offA l b).1.k=1):
 Calls Try.prog 25 #[.pointer (some ⟨r,0,none⟩)] w (zda r (msgR offA l b).1 (msgR offA l b).2.1 (msgR offA l b).2.2 w):=by
 have hr:=h.lt;have M:=zid (Mw.start w h);have NUM:=zid fun (l:List UInt8) (b:Bool) (W:World) (hW:WR r l b W) (hl:l.length<=140737488351232)=>zaG r l b W hW hl;have HL0:=zid hl;obtain ⟨x0,l1,b1,e0⟩:∃x l' b',numR l b=(x,l',b'):=⟨_,_,_,rfl⟩;have HL1:=zid (show l1.length<=140737488351232 from by have:=zah l b;rw [e0] at this;exact Nat.le_trans this HL0.out);obtain ⟨x1,l2,b2,e1⟩:∃x l' b',numR l1 b1=(x,l',b'):=⟨_,_,_,rfl⟩;have HL2:=zid (show l2.length<=140737488351232 from by have:=zah l1 b1;rw [e1] at this;exact Nat.le_trans this HL1.out);obtain ⟨x2,l3,b3,e2⟩:∃x l' b',numR l2 b2=(x,l',b'):=⟨_,_,_,rfl⟩;have HL3:=zid (show l3.length<=140737488351232 from by have:=zah l2 b2;rw [e2] at this;exact Nat.le_trans this HL2.out);obtain ⟨x3,l4,b4,e3⟩:∃x l' b',numR l3 b3=(x,l',b'):=⟨_,_,_,rfl⟩;have HL4:=zid (show l4.length<=140737488351232 from by have:=zah l3 b3;rw [e3] at this;exact Nat.le_trans this HL3.out);obtain ⟨x4,l5,b5,e4⟩:∃x l' b',numR l4 b4=(x,l',b'):=⟨_,_,_,rfl⟩;have HL5:=zid (show l5.length<=140737488351232 from by have:=zah l4 b4;rw [e4] at this;exact Nat.le_trans this HL4.out);obtain ⟨x5,l6,b6,e5⟩:∃x l' b',numR l5 b5=(x,l',b'):=⟨_,_,_,rfl⟩;have HL6:=zid (show l6.length<=140737488351232 from by have:=zah l5 b5;rw [e5] at this;exact Nat.le_trans this HL5.out);obtain ⟨x6,l7,b7,e6⟩:∃x l' b',numR l6 b6=(x,l',b'):=⟨_,_,_,rfl⟩;have HL7:=zid (show l7.length<=140737488351232 from by have:=zah l6 b6;rw [e6] at this;exact Nat.le_trans this HL6.out)
 have HS:segR 7 l b=([x0,x1,x2,x3,x4,x5,x6],l7,b7):=by
  simp only [segR,e0,e1,e2,e3,e4,e5,e6,List.nil_append,List.cons_append]
 have HM:msgR offA l b=zaQ offA ⟨x0,x1,x2,x3,x4,x5,x6,0,0,0,0,0,0,⟨#[]⟩,[]⟩ l7 b7:=by unfold msgR;rw [HS];rfl
 have hn:(msgR offA l b).1.k=x0:=by rw [HM,zbL]
 rw [hk] at hn;subst hn;rw [zbN rfl] at HM;obtain ⟨x7,l8,b8,e7⟩:∃x l' b',numR l7 b7=(x,l',b'):=⟨_,_,_,rfl⟩;have HL8:=zid (show l8.length<=140737488351232 from by have:=zah l7 b7;rw [e7] at this;exact Nat.le_trans this HL7.out);obtain ⟨x8,l9,b9,e8⟩:∃x l' b',numR l8 b8=(x,l',b'):=⟨_,_,_,rfl⟩;have HL9:=zid (show l9.length<=140737488351232 from by have:=zah l8 b8;rw [e8] at this;exact Nat.le_trans this HL8.out);obtain ⟨x9,l10,b10,e9⟩:∃x l' b',numR l9 b9=(x,l',b'):=⟨_,_,_,rfl⟩;have HL10:=zid (show l10.length<=140737488351232 from by have:=zah l9 b9;rw [e9] at this;exact Nat.le_trans this HL9.out)
 have HS3:segR 3 l7 b7=([x7,x8,x9],l10,b10):=by simp only [segR,e7,e8,e9,List.nil_append,List.cons_append]
 rw [HS3] at HM;dsimp only [List.getD_cons_zero,List.getD_cons_succ] at HM;rw [HM];dsimp only;have N0:=fun (W:World) (hW:WR r l b W)=>NUM.out l b W hW HL0.out;rw [e0] at N0;replace N0:=zid N0;have N1:=fun (W:World) (hW:WR r l1 b1 W)=>NUM.out l1 b1 W hW HL1.out;rw [e1] at N1;replace N1:=zid N1;have N2:=fun (W:World) (hW:WR r l2 b2 W)=>NUM.out l2 b2 W hW HL2.out;rw [e2] at N2;replace N2:=zid N2;have N3:=fun (W:World) (hW:WR r l3 b3 W)=>NUM.out l3 b3 W hW HL3.out;rw [e3] at N3;replace N3:=zid N3;have N4:=fun (W:World) (hW:WR r l4 b4 W)=>NUM.out l4 b4 W hW HL4.out;rw [e4] at N4;replace N4:=zid N4;have N5:=fun (W:World) (hW:WR r l5 b5 W)=>NUM.out l5 b5 W hW HL5.out;rw [e5] at N5;replace N5:=zid N5;have N6:=fun (W:World) (hW:WR r l6 b6 W)=>NUM.out l6 b6 W hW HL6.out;rw [e6] at N6;replace N6:=zid N6;have N7:=fun (W:World) (hW:WR r l7 b7 W)=>NUM.out l7 b7 W hW HL7.out;rw [e7] at N7;replace N7:=zid N7;have N8:=fun (W:World) (hW:WR r l8 b8 W)=>NUM.out l8 b8 W hW HL8.out;rw [e8] at N8;replace N8:=zid N8;have N9:=fun (W:World) (hW:WR r l9 b9 W)=>NUM.out l9 b9 W hW HL9.out;rw [e9] at N9;replace N9:=zid N9;clear e0 e1 e2 e3 e4 e5 e6 e7 e8 e9 HM HS h hl HS3;unfold zda zag;dsimp only
 go_enter Try.func25,Try.ntmps25
 go_wp2_with fail;generalize (w.alloc _).alloc _=W0 at M ⊢;refine (N0.out W0 M.out.rd).mono ?_;rintro e w1 ⟨rfl,h1,g1⟩;have C1:=zid (M.out.call hr g1 h1);clear h1 g1 M;obtain ⟨c0,c1,c2,c3,c4,c5,c6,c7,c8,c9,c10,c11,c12,c13,c14⟩:=zaa C1.out.box;have fz:=zac C1.out.box 0;have P1:=zid (show Mw w r w.heap.size #[.int .i64 1,.int .i64 0,.int .i64 0,.int .i64 0,.int .i64 0,.int .i64 0,.int .i64 0,.int .i64 0,.int .i64 0,.int .i64 0,.int .i64 0,.int .i64 0,.int .u32 0,.string ⟨#[]⟩,.slice none 0 0] l1 b1 (w1.setCell ⟨w.heap.size+1,0,none⟩ (.int .i64 1)) from C1.out.put hr rfl 0 (.int .i64 1));clear C1;go_wp2_with fail;clear c0 c1 c2 c3 c4 c5 c6 c7 c8 c9 c10 c11 c12 c13 c14 fz;generalize w1.setCell _ _=W1 at P1 ⊢;refine (N1.out W1 P1.out.rd).mono ?_;rintro e w2 ⟨rfl,h2,g2⟩;have C2:=zid (P1.out.call hr g2 h2);clear h2 g2 P1;obtain ⟨c0,c1,c2,c3,c4,c5,c6,c7,c8,c9,c10,c11,c12,c13,c14⟩:=zaa C2.out.box;have fz:=zac C2.out.box 1;have P2:=zid (show Mw w r w.heap.size #[.int .i64 1,.int .i64 x1,.int .i64 0,.int .i64 0,.int .i64 0,.int .i64 0,.int .i64 0,.int .i64 0,.int .i64 0,.int .i64 0,.int .i64 0,.int .i64 0,.int .u32 0,.string ⟨#[]⟩,.slice none 0 0] l2 b2 (w2.setCell ⟨w.heap.size+1,1,none⟩ (.int .i64 x1)) from C2.out.put hr rfl 1 (.int .i64 x1));clear C2;go_wp2_with fail;clear c0 c1 c2 c3 c4 c5 c6 c7 c8 c9 c10 c11 c12 c13 c14 fz;generalize w2.setCell _ _=W2 at P2 ⊢;refine (N2.out W2 P2.out.rd).mono ?_;rintro e w3 ⟨rfl,h3,g3⟩;have C3:=zid (P2.out.call hr g3 h3);clear h3 g3 P2;obtain ⟨c0,c1,c2,c3,c4,c5,c6,c7,c8,c9,c10,c11,c12,c13,c14⟩:=zaa C3.out.box;have fz:=zac C3.out.box 2;have P3:=zid (show Mw w r w.heap.size #[.int .i64 1,.int .i64 x1,.int .i64 x2,.int .i64 0,.int .i64 0,.int .i64 0,.int .i64 0,.int .i64 0,.int .i64 0,.int .i64 0,.int .i64 0,.int .i64 0,.int .u32 0,.string ⟨#[]⟩,.slice none 0 0] l3 b3 (w3.setCell ⟨w.heap.size+1,2,none⟩ (.int .i64 x2)) from C3.out.put hr rfl 2 (.int .i64 x2));clear C3;go_wp2_with fail;clear c0 c1 c2 c3 c4 c5 c6 c7 c8 c9 c10 c11 c12 c13 c14 fz;generalize w3.setCell _ _=W3 at P3 ⊢;refine (N3.out W3 P3.out.rd).mono ?_;rintro e w4 ⟨rfl,h4,g4⟩;have C4:=zid (P3.out.call hr g4 h4);clear h4 g4 P3;obtain ⟨c0,c1,c2,c3,c4,c5,c6,c7,c8,c9,c10,c11,c12,c13,c14⟩:=zaa C4.out.box;have fz:=zac C4.out.box 3;have P4:=zid (show Mw w r w.heap.size #[.int .i64 1,.int .i64 x1,.int .i64 x2,.int .i64 x3,.int .i64 0,.int .i64 0,.int .i64 0,.int .i64 0,.int .i64 0,.int .i64 0,.int .i64 0,.int .i64 0,.int .u32 0,.string ⟨#[]⟩,.slice none 0 0] l4 b4 (w4.setCell ⟨w.heap.size+1,3,none⟩ (.int .i64 x3)) from C4.out.put hr rfl 3 (.int .i64 x3));clear C4;go_wp2_with fail;clear c0 c1 c2 c3 c4 c5 c6 c7 c8 c9 c10 c11 c12 c13 c14 fz;generalize w4.setCell _ _=W4 at P4 ⊢;refine (N4.out W4 P4.out.rd).mono ?_;rintro e w5 ⟨rfl,h5,g5⟩;have C5:=zid (P4.out.call hr g5 h5);clear h5 g5 P4;obtain ⟨c0,c1,c2,c3,c4,c5,c6,c7,c8,c9,c10,c11,c12,c13,c14⟩:=zaa C5.out.box;have fz:=zac C5.out.box 4;have P5:=zid (show Mw w r w.heap.size #[.int .i64 1,.int .i64 x1,.int .i64 x2,.int .i64 x3,.int .i64 x4,.int .i64 0,.int .i64 0,.int .i64 0,.int .i64 0,.int .i64 0,.int .i64 0,.int .i64 0,.int .u32 0,.string ⟨#[]⟩,.slice none 0 0] l5 b5 (w5.setCell ⟨w.heap.size+1,4,none⟩ (.int .i64 x4)) from C5.out.put hr rfl 4 (.int .i64 x4));clear C5;go_wp2_with fail;clear c0 c1 c2 c3 c4 c5 c6 c7 c8 c9 c10 c11 c12 c13 c14 fz;generalize w5.setCell _ _=W5 at P5 ⊢;refine (N5.out W5 P5.out.rd).mono ?_;rintro e w6 ⟨rfl,h6,g6⟩;have C6:=zid (P5.out.call hr g6 h6);clear h6 g6 P5;obtain ⟨c0,c1,c2,c3,c4,c5,c6,c7,c8,c9,c10,c11,c12,c13,c14⟩:=zaa C6.out.box;have fz:=zac C6.out.box 5;have P6:=zid (show Mw w r w.heap.size #[.int .i64 1,.int .i64 x1,.int .i64 x2,.int .i64 x3,.int .i64 x4,.int .i64 x5,.int .i64 0,.int .i64 0,.int .i64 0,.int .i64 0,.int .i64 0,.int .i64 0,.int .u32 0,.string ⟨#[]⟩,.slice none 0 0] l6 b6 (w6.setCell ⟨w.heap.size+1,5,none⟩ (.int .i64 x5)) from C6.out.put hr rfl 5 (.int .i64 x5));clear C6;go_wp2_with fail;clear c0 c1 c2 c3 c4 c5 c6 c7 c8 c9 c10 c11 c12 c13 c14 fz;generalize w6.setCell _ _=W6 at P6 ⊢;refine (N6.out W6 P6.out.rd).mono ?_;rintro e w7 ⟨rfl,h7,g7⟩;have C7:=zid (P6.out.call hr g7 h7);clear h7 g7 P6;obtain ⟨c0,c1,c2,c3,c4,c5,c6,c7,c8,c9,c10,c11,c12,c13,c14⟩:=zaa C7.out.box;have fz:=zac C7.out.box 6;have P7:=zid (show Mw w r w.heap.size #[.int .i64 1,.int .i64 x1,.int .i64 x2,.int .i64 x3,.int .i64 x4,.int .i64 x5,.int .i64 x6,.int .i64 0,.int .i64 0,.int .i64 0,.int .i64 0,.int .i64 0,.int .u32 0,.string ⟨#[]⟩,.slice none 0 0] l7 b7 (w7.setCell ⟨w.heap.size+1,6,none⟩ (.int .i64 x6)) from C7.out.put hr rfl 6 (.int .i64 x6));clear C7;go_wp2_with fail;clear c0 c1 c2 c3 c4 c5 c6 c7 c8 c9 c10 c11 c12 c13 c14 fz;generalize w7.setCell _ _=W7 at P7 ⊢;refine (N7.out W7 P7.out.rd).mono ?_;rintro e w8 ⟨rfl,h8,g8⟩;have C8:=zid (P7.out.call hr g8 h8);clear h8 g8 P7;obtain ⟨c0,c1,c2,c3,c4,c5,c6,c7,c8,c9,c10,c11,c12,c13,c14⟩:=zaa C8.out.box;have fz:=zac C8.out.box 7;have P8:=zid (show Mw w r w.heap.size #[.int .i64 1,.int .i64 x1,.int .i64 x2,.int .i64 x3,.int .i64 x4,.int .i64 x5,.int .i64 x6,.int .i64 x7,.int .i64 0,.int .i64 0,.int .i64 0,.int .i64 0,.int .u32 0,.string ⟨#[]⟩,.slice none 0 0] l8 b8 (w8.setCell ⟨w.heap.size+1,7,none⟩ (.int .i64 x7)) from C8.out.put hr rfl 7 (.int .i64 x7));clear C8;go_wp2_with fail;clear c0 c1 c2 c3 c4 c5 c6 c7 c8 c9 c10 c11 c12 c13 c14 fz;generalize w8.setCell _ _=W8 at P8 ⊢;refine (N8.out W8 P8.out.rd).mono ?_;rintro e w9 ⟨rfl,h9,g9⟩;have C9:=zid (P8.out.call hr g9 h9);clear h9 g9 P8;obtain ⟨c0,c1,c2,c3,c4,c5,c6,c7,c8,c9,c10,c11,c12,c13,c14⟩:=zaa C9.out.box;have fz:=zac C9.out.box 9;have P9:=zid (show Mw w r w.heap.size #[.int .i64 1,.int .i64 x1,.int .i64 x2,.int .i64 x3,.int .i64 x4,.int .i64 x5,.int .i64 x6,.int .i64 x7,.int .i64 0,.int .i64 x8,.int .i64 0,.int .i64 0,.int .u32 0,.string ⟨#[]⟩,.slice none 0 0] l9 b9 (w9.setCell ⟨w.heap.size+1,9,none⟩ (.int .i64 x8)) from C9.out.put hr rfl 9 (.int .i64 x8));clear C9;go_wp2_with fail;clear c0 c1 c2 c3 c4 c5 c6 c7 c8 c9 c10 c11 c12 c13 c14 fz;generalize w9.setCell _ _=W9 at P9 ⊢;refine (N9.out W9 P9.out.rd).mono ?_;rintro e w10 ⟨rfl,h10,g10⟩;have C10:=zid (P9.out.call hr g10 h10);clear h10 g10 P9;obtain ⟨c0,c1,c2,c3,c4,c5,c6,c7,c8,c9,c10,c11,c12,c13,c14⟩:=zaa C10.out.box;have fz:=zac C10.out.box 10;have P10:=zid (show Mw w r w.heap.size #[.int .i64 1,.int .i64 x1,.int .i64 x2,.int .i64 x3,.int .i64 x4,.int .i64 x5,.int .i64 x6,.int .i64 x7,.int .i64 0,.int .i64 x8,.int .i64 x9,.int .i64 0,.int .u32 0,.string ⟨#[]⟩,.slice none 0 0] l10 b10 (w10.setCell ⟨w.heap.size+1,10,none⟩ (.int .i64 x9)) from C10.out.put hr rfl 10 (.int .i64 x9));clear C10;go_upto_region 22 with (fail);clear c0 c1 c2 c3 c4 c5 c6 c7 c8 c9 c10 c11 c12 c13 c14 fz;generalize w10.setCell _ _=W10 at P10 ⊢;obtain ⟨c0,c1,c2,c3,c4,c5,c6,c7,c8,c9,c10,c11,c12,c13,c14⟩:=zaa P10.out.box;obtain ⟨r0,r1,r2,r3,r4,r5,r6,r7,r8,r9,r10,r11,r12,r13,r14⟩:=zaa P10.out.res;have fr:=zac P10.out.res;have HF:=zid (P10.out.fin hr rfl (.int .i64 1) (.int .i64 x1) (.int .i64 x2) (.int .i64 x3) (.int .i64 x4) (.int .i64 x5) (.int .i64 x6) (.int .i64 x7) (.int .i64 0) (.int .i64 x8) (.int .i64 x9) (.int .i64 0) (.int .u32 0) (.string ⟨#[]⟩) (.slice none 0 0));go_wp2_with fail;refine bodyPost_ret (v:= .agg #[.int .i64 1,.int .i64 x1,.int .i64 x2,.int .i64 x3,.int .i64 x4,.int .i64 x5,.int .i64 x6,.int .i64 x7,.int .i64 0,.int .i64 x8,.int .i64 x9,.int .i64 0,.int .u32 0,.string ⟨#[]⟩,.slice none 0 0]) (by simp [results,Try.results25,go_sem,r0,r1,r2,r3,r4,r5,r6,r7,r8,r9,r10,r11,r12,r13,r14]) rfl ?_;exact ⟨none,0,0,rfl,zae.nil _ _ _,fun q hq=>by simp [Value.ownBlock] at hq,HF.out.1,HF.out.2⟩
end Wr
end Go.Proofs.Ytmkdcpjlhphhiaa

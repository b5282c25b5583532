/-
  Parts of what the laws of this seat stand on:WirVal,WirRight,WirTail.
-/
import Derived.Test.YtmkdcpjlhphhiaaBj1
import Derived.Deep.Heap
import Derived.Test.YtmkdcpjlhphhiaaBj2
import Derived.Test.YtmkdcpjlhphhiaaBj4
set_option maxRecDepth 100000
set_option maxHeartbeats 6400000
namespace Go.Proofs.Ytmkdcpjlhphhiaa
namespace Wr
open Go.RowKit Qm Wq Mfs
def zag (v:Value) (m:Ms):Value:= .agg #[.int .i64 m.k,.int .i64 m.f,.int .i64 m.t,.int .i64 m.i,.int .i64 m.p,.int .i64 m.q,.int .i64 m.a,.int .i64 m.wd,.int .i64 m.h,.int .i64 m.wt,.int .i64 m.x,.int .i64 m.z,.int .u32 m.s,.string m.d,v]
def I64 (n:Int):Prop:= -9223372036854775808<=n/\n<=9223372036854775807
structure MsB (m:Ms):Prop where
 k:I64 m.k
 f:I64 m.f
 t:I64 m.t
 i:I64 m.i
 p:I64 m.p
 q:I64 m.q
 a:I64 m.a
 wd:I64 m.wd
 h:I64 m.h
 wt:I64 m.wt
 x:I64 m.x
 z:I64 m.z
 s:0<=m.s/\m.s<4294967296
 d:m.d.size<=9223372036854775807
theorem zaa {W:World} {k:Nat} {T:TypeId} {c0 c1 c2 c3 c4 c5 c6 c7 c8 c9 c10 c11 c12 c13 c14:Value} (h:W.heap[k]?=some (.cells #[c0,c1,c2,c3,c4,c5,c6,c7,c8,c9,c10,c11,c12,c13,c14] T (0,0))):
 W.cell? ⟨k,0,none⟩=some c0/\W.cell? ⟨k,1,none⟩=some c1/\W.cell? ⟨k,2,none⟩=some c2/\W.cell? ⟨k,3,none⟩=some c3/\W.cell? ⟨k,4,none⟩=some c4/\W.cell? ⟨k,5,none⟩=some c5/\W.cell? ⟨k,6,none⟩=some c6/\W.cell? ⟨k,7,none⟩=some c7/\W.cell? ⟨k,8,none⟩=some c8/\W.cell? ⟨k,9,none⟩=some c9/\W.cell? ⟨k,10,none⟩=some c10/\W.cell? ⟨k,11,none⟩=some c11/\W.cell? ⟨k,12,none⟩=some c12/\W.cell? ⟨k,13,none⟩=some c13/\W.cell? ⟨k,14,none⟩=some c14:=by
 refine ⟨?_,?_,?_,?_,?_,?_,?_,?_,?_,?_,?_,?_,?_,?_,?_⟩<;>(rw [cell_of_row _ _ _ _ _ _ h];rfl)
theorem zac {W:World} {k:Nat} {T:TypeId} {cs:Array Value} (h:W.heap[k]?=some (.cells cs T (0,0))) (j:Nat):W.frozen? ⟨k,j,none⟩=false:=by unfold World.frozen?;rw [h];rfl
def inI (n lo hi:Int):Bool:=decide (lo<=n)&&decide (n<=hi)
theorem zak {n lo hi:Int} (h:inI n lo hi=true):lo<=n/\n<=hi:=by
 unfold inI at h;rw [Bool.and_eq_true] at h;exact ⟨of_decide_eq_true h.1,of_decide_eq_true h.2⟩
theorem zbH {n lo hi:Int} (h0:lo<=n) (h1:n<=hi):inI n lo hi=true:=by
 unfold inI;rw [Bool.and_eq_true];exact ⟨decide_eq_true h0,decide_eq_true h1⟩
theorem zeo {n lo hi:Int} (h:n<lo\/hi<n):inI n lo hi=false:=by
 unfold inI;rw [Bool.and_eq_false_iff]
 rcases h with h | h
 · exact .inl (decide_eq_false (by omega))
 · exact .inr (decide_eq_false (by omega))
theorem zam {n lo hi:Int} (h:inI n lo hi=false):¬(lo<=n/\n<=hi):=fun hh=>by rw [zbH hh.1 hh.2] at h;cases h
theorem zb8 (n lo hi:Int) (w:World):
 Calls Try.prog 53 #[.int .i64 n,.int .i64 lo,.int .i64 hi] w fun e w'=>e= .returned (.bool (inI n lo hi))/\w=w':=by
 by_cases h0:lo<=n
 · by_cases h1:n<=hi
   · rw [zbH h0 h1]
     go_enter Try.func53,Try.ntmps53
     go_wp2_with fail;go_ret;exact ⟨rfl,rfl⟩
   · rw [zeo (by omega)]
     have h2:decide (n<=hi)=false:=by simp;omega
     clear h1
     go_enter Try.func53,Try.ntmps53
     go_wp2_with fail;go_ret;exact ⟨rfl,rfl⟩
 · rw [zeo (by omega)]
   have h2:decide (lo<=n)=false:=by simp;omega
   clear h0
   go_enter Try.func53,Try.ntmps53
   go_wp2_with fail;go_ret;exact ⟨rfl,rfl⟩
theorem zaP (n hi:Int) (w:World):
 Calls Try.prog 30 #[.int .i64 n,.int .i64 hi] w fun e w'=>e= .returned (.bool (inI n 0 hi))/\w=w':=by
 by_cases h0:0<=n
 · by_cases h1:n<=hi
   · rw [zbH h0 h1]
     go_enter Try.func30,Try.ntmps30
     go_wp2_with fail;go_ret;exact ⟨rfl,rfl⟩
   · rw [zeo (by omega)]
     have h2:decide (n<=hi)=false:=by simp;omega
     clear h1
     go_enter Try.func30,Try.ntmps30
     go_wp2_with fail;go_ret;exact ⟨rfl,rfl⟩
 · rw [zeo (by omega)]
   have h2:decide (0<=n)=false:=by simp;omega
   clear h0
   go_enter Try.func30,Try.ntmps30
   go_wp2_with fail;go_ret;exact ⟨rfl,rfl⟩
def zeros (l:List Int):Bool:=l.all fun n=>n==0
theorem zeros_no {l:List Int} {k:Nat} (hk:k<l.length) (h:l.getD k 0≠0):zeros l=false:=by
 unfold zeros;rw [List.all_eq_false]
 have e:l.getD k 0=l[k]:=by simp [List.getD_eq_getElem?_getD,hk]
 rw [e] at h;exact ⟨_,List.getElem_mem hk,by simpa using h⟩
theorem ze0 {l:List Int} (h:∀i,i<l.length->l.getD i 0=0):zeros l=true:=by
 unfold zeros;rw [List.all_eq_true];intro x hx;obtain ⟨i,hi,rfl⟩:=List.getElem_of_mem hx;have:=h i hi;rw [show l.getD i 0=l[i] by simp [List.getD_eq_getElem?_getD,hi]] at this
 simpa using this
theorem zcs (w:World) (l:List Int) (n:Nat) (hn:n=l.length) (hl:l.length<=maxLen) (hok:∀x∈l,I64 x):IsL IL (w.alloc (.cells (IL.vals l).toArray 3)) (.slice (some ⟨w.heap.size,0,none⟩) n n) l:=by
 subst hn;refine ⟨_,_,rfl,⟨hl,Nat.le_refl _⟩,hok,.inr ⟨_,_,rfl,fun j u hj=>?_⟩⟩;have:=zbG w w.heap.size (IL.vals l) 3 rfl j u hj
 rwa [za7] at this
theorem zez (a:Option Addr) (n c:Nat) (l:List Int) (w:World) (h:IsL IL w (.slice a n c) l) (hn:n<1000):
 Calls Try.prog 54 #[.slice a n c] w fun e w'=>e= .returned (.bool (zeros l))/\w=w':=by
 have HV:=zid h;have HL:=zid h.len.1;have HY:=zid (@ze0 l);have HN:=zid fun k=> @zeros_no l k;clear h
 go_enter Try.func54,Try.ntmps54
 go_wp2_with fail
 go_loop [7] (fun i=>∃k:Nat,k<=n/\i= .int .i64 k/\∀j,j<k->l.getD j 0=0) (fun i=>n-(intOf i).toNat)
 case atStart=>exact ⟨0,Nat.zero_le _,rfl,fun j hj=>absurd hj (Nat.not_lt_zero j)⟩
 case round=>
  obtain ⟨k,hk,rfl,hs⟩:=hrel;have HS:=zid hs;clear hs
  by_cases hlt:k<n
  · obtain ⟨b,off,rfl,c0⟩:=il_at HV.out hlt
    have HB:=zid (HN.out k (by rw [<-HL.out];exact hlt))
    by_cases h0:l.getD k 0=0
    · have HZ:=zid h0
      rw [h0] at c0
      clear h0;go_wp2_with fail
      go_round
      case rel=>exact ⟨k+1,by omega,by go_num,fun j hj=>by
       by_cases e:j=k
       · rw [e];exact HZ.out
       · exact HS.out j (by omega)⟩
      case measure=>simp [intOf];omega
    · have HF:=zid (HB.out h0)
      generalize l.getD k 0=x at*
      have h1:(x != 0)=true:=by simpa using h0
      clear h0;go_wp2_with fail;go_ret;exact ⟨by rw [HF.out];rfl,rfl⟩
  · obtain rfl:k=n:=by omega
    have HF:=zid (HY.out fun i hi=>HS.out i (by rw [HL.out];exact hi))
    go_wp2_with fail;go_ret;exact ⟨by rw [HF.out];rfl,rfl⟩
def zd3 (a:Int) (l:List Rp.Rec) (k:Nat):Prop:=∀i,i<k->Rp.Ok (l.getD i Rp.zero)/\(l.getD i Rp.zero).a=a+i
theorem zd3.next {a:Int} {l:List Rp.Rec} {k:Nat} (h:zd3 a l k) (h1:Rp.Ok (l.getD k Rp.zero)) (h2:(l.getD k Rp.zero).a=a+k):zd3 a l (k+1):=by
 intro i hi
 by_cases e:i=k
 · subst e;exact ⟨h1,h2⟩
 · exact h i (by omega)
theorem zcX {r:Rp.Rec}:okB r=true↔Rp.Ok r:=by
 rcases Rp.fault_cases r with ⟨h1,h2⟩ | ⟨h1,h2⟩
 · exact ⟨fun _=>h2,fun _=>zdV h1⟩
 · refine ⟨fun h=>?_,fun h=>absurd h h1⟩
   rw [zek (by omega)] at h
   cases h
theorem zcT (at_:Int) (a:Option Addr) (n c:Nat) (l:List Rp.Rec) (b:Bool) (w:World) (h:zae w (.slice a n c) l) (h0:0<=at_) (h1:at_<=1099511627776) (hb:b=true↔zdK at_ l):
 Calls Try.prog 55 #[.int .i64 at_,.slice a n c] w fun e w'=>e= .returned (.bool b)/\Below w.heap.size w w':=by
 obtain ⟨a',c',he,hm,hok,hc⟩:=h
 injection he with e1 e2 e3
 subst e1 e2 e3;have HN:=zid (show ¬zdK at_ l->b=false from fun h=>by rw [<-Bool.not_eq_true,hb];exact h);have HY:=zid (show zdK at_ l->b=true from hb.2);clear hb;unfold maxLen at hm
 by_cases h64:(64:Int)<(l.length:Int)
 · have HF:=zid (HN.out fun h=>by have:=h.1;omega)
   clear hc
   go_enter Try.func55,Try.ntmps55
   go_wp2_with fail;go_ret;exact ⟨by rw [HF.out];rfl,Below.refl _ _⟩
 have HC:=zid hc;have HOK:=zid hok;clear hc hok;obtain ⟨len,hlen⟩:∃len,l.length=len:=⟨_,rfl⟩;rw [hlen] at HC h64 hm ⊢;have HL:=zid hlen;clear hlen
 have hl64:decide ((64:Int)<(len:Int))=false:=by simp;omega
 have hle:len<=64:=by omega
 clear h64
 go_enter Try.func55,Try.ntmps55
 go_wp2_with fail
 go_loopw [12] (fun i wr=>∃k:Nat,k<=len/\i= .int .i64 k/\zd3 at_ l k/\Below w.heap.size w wr) (fun i _=>len-(intOf i).toNat)
 case atStart=>exact ⟨0,Nat.zero_le _,rfl,fun j hj=>absurd hj (Nat.not_lt_zero j),Below.refl _ _⟩
 case round=>
  obtain ⟨k,hk,rfl,hs,hbel⟩:=hrel;have HS:=zid hs;have HB:=zid hbel;clear hs
  by_cases hlt:k<len
  · have hlt':k<l.length:=by rw [HL.out];exact hlt
    rcases HC.out with h | ⟨g,off,rfl,h4⟩
    · subst h;simp at hlt'
    obtain ⟨c0,c1,c2⟩:=h4 k hlt;have hbb:=block_lt_of_cell c0
    have z0:wr.cell? ⟨g,off+k*3,none⟩=some (.int .i64 (l.getD k Rp.zero).a):=by rw [hbel.cell (p:=⟨g,off+k*3,none⟩) hbb];exact c0
    have z1:wr.cell? ⟨g,off+k*3+1,none⟩=some (.int .i64 (l.getD k Rp.zero).t):=by rw [hbel.cell (p:=⟨g,off+k*3+1,none⟩) hbb];exact c1
    have z2:wr.cell? ⟨g,off+k*3+2,none⟩=some (.string (l.getD k Rp.zero).d):=by rw [hbel.cell (p:=⟨g,off+k*3+2,none⟩) hbb];exact c2
    have hrk:=HOK.out _ (show l.getD k Rp.zero∈l by rw [show l.getD k Rp.zero=l[k] by simp [List.getD_eq_getElem?_getD,hlt']];exact List.getElem_mem _);have hd:=hrk.d1;have HNX:=zid fun h1 h2=>HS.out.next (k:=k) h1 h2;have HBAD:=zid (show ¬(Rp.Ok (l.getD k Rp.zero)/\(l.getD k Rp.zero).a=at_+k)->b=false from fun h=>HN.out fun hh=>h (hh.2 k hlt'));have r0:=hrk.a0;have r1:=hrk.a1;clear h4 c0 c1 c2 hbb hlt' hrk hbel;generalize l.getD k Rp.zero=r at*;have P:=fun W:World=>zfk r W hd
    by_cases ha:r.a=at_+k
    · have q1:(r.a != at_+(k:Int))=false:=by simpa using ha
      have HA:=zid ha
      clear ha
      rcases hob:okB r with _ | _
      · rw [hob] at P
        have HF:=zid (HBAD.out fun h=>by rw [zcX.2 h.1] at hob;cases hob)
        unfold zbc at P;replace P:=zid P;clear hob;go_wp2_with fail;refine (P.out _).mono ?_;rintro e w2 ⟨rfl,b2⟩;have HB2:=zid (HB.out.trans ((zaq b2).mono HB.out.size));clear b2;go_wp2_with fail;go_ret;exact ⟨by rw [HF.out];rfl,HB2.out⟩
      · rw [hob] at P
        have HF:=zid (HNX.out (zcX.1 hob) HA.out)
        unfold zbc at P;replace P:=zid P;clear hob;go_wp2_with fail;refine (P.out _).mono ?_;rintro e w2 ⟨rfl,b2⟩;have HB2:=zid (HB.out.trans ((zaq b2).mono HB.out.size));clear b2;go_wp2_with fail
        go_roundw
        case rel=>exact ⟨k+1,by omega,by go_num,HF.out,HB2.out⟩
        case measure=>simp [intOf];omega
    · have q1:(r.a != at_+(k:Int))=true:=by simpa using ha
      have HF:=zid (HBAD.out fun h=>ha h.2)
      have HB2:=zid (HB.out.alloc HB.out.size (.cells #[.int .i64 r.a,.int .i64 r.t,.string r.d] 41));clear ha P;go_wp2_with fail;go_ret;exact ⟨by rw [HF.out];rfl,HB2.out⟩
  · obtain rfl:k=len:=by omega
    have HF:=zid (HY.out ⟨by rw [HL.out];exact hle,fun i hi=>HS.out i (by rw [<-HL.out];exact hi)⟩)
    clear hbel;go_wp2_with fail;go_ret;exact ⟨by rw [HF.out];rfl,HB.out⟩
theorem zfG (m:Ms) (b:Bool) (hb:b=true↔Head m):
 (inI m.f 0 7=false/\b=false)\/(inI m.f 0 7=true/\inI m.t 0 7=false/\b=false)\/(inI m.f 0 7=true/\inI m.t 0 7=true/\(m.f != m.t)=false/\b=false)\/
 (inI m.f 0 7=true/\inI m.t 0 7=true/\(m.f != m.t)=true/\inI m.i 1 1099511627776=false/\b=false)\/
 (inI m.f 0 7=true/\inI m.t 0 7=true/\(m.f != m.t)=true/\inI m.i 1 1099511627776=true/\inI m.p 0 1099511627776=false/\b=false)\/
 (inI m.f 0 7=true/\inI m.t 0 7=true/\(m.f != m.t)=true/\inI m.i 1 1099511627776=true/\inI m.p 0 1099511627776=true/\inI m.q 0 1099511627776=false/\b=false)\/
 (inI m.f 0 7=true/\inI m.t 0 7=true/\(m.f != m.t)=true/\inI m.i 1 1099511627776=true/\inI m.p 0 1099511627776=true/\inI m.q 0 1099511627776=true/\inI m.a 0 1099511627776=b):=by
 have no:¬Head m->b=false:=fun h=>by rw [<-Bool.not_eq_true,hb];exact h
 rcases h1:inI m.f 0 7 with _ | _
 · exact .inl ⟨rfl,no fun h=>zam h1 ⟨h.f0,h.f1⟩⟩
 rcases h2:inI m.t 0 7 with _ | _
 · exact .inr (.inl ⟨rfl,rfl,no fun h=>zam h2 ⟨h.t0,h.t1⟩⟩)
 rcases h3:(m.f != m.t) with _ | _
 · exact .inr (.inr (.inl ⟨rfl,rfl,rfl,no fun h=>h.ne (by simpa using h3)⟩))
 rcases h4:inI m.i 1 1099511627776 with _ | _
 · exact .inr (.inr (.inr (.inl ⟨rfl,rfl,rfl,rfl,no fun h=>zam h4 ⟨h.i0,h.i1⟩⟩)))
 rcases h5:inI m.p 0 1099511627776 with _ | _
 · exact .inr (.inr (.inr (.inr (.inl ⟨rfl,rfl,rfl,rfl,rfl,no fun h=>zam h5 ⟨h.p0,h.p1⟩⟩))))
 rcases h6:inI m.q 0 1099511627776 with _ | _
 · exact .inr (.inr (.inr (.inr (.inr (.inl ⟨rfl,rfl,rfl,rfl,rfl,rfl,no fun h=>zam h6 ⟨h.q0,h.q1⟩⟩)))))
 refine .inr (.inr (.inr (.inr (.inr (.inr ⟨rfl,rfl,rfl,rfl,rfl,rfl,?_⟩)))))
 rcases h7:inI m.a 0 1099511627776 with _ | _
 · exact (no fun h=>zam h7 ⟨h.a0,h.a1⟩).symm
 · have a1:=zak h1
   have a2:=zak h2
   have a4:=zak h4;have a5:=zak h5;have a6:=zak h6;have a7:=zak h7;exact (hb.2 ⟨a1.1,a1.2,a2.1,a2.2,by simpa using h3,a4.1,a4.2,a5.1,a5.2,a6.1,a6.2,a7.1,a7.2⟩).symm
theorem zbA (v:Value) (m:Ms) (b:Bool) (w:World) (hb:b=true↔Head m):
 Calls Try.prog 28 #[zag v m] w fun e w'=>e= .returned (.bool b)/\Below w.heap.size w w':=by
 have D:=zfG m b hb;clear hb;have C:=zid fun (n lo hi:Int) (W:World)=>zb8 n lo hi W;obtain ⟨k,f,t,i,p,q,a,wd,h,wt,x,z,s,d,l⟩:=m;unfold zag;dsimp only at*;have HA:=zid ((Below.refl w.heap.size w).alloc (Nat.le_refl _) (.cells #[.int .i64 k,.int .i64 f,.int .i64 t,.int .i64 i,.int .i64 p,.int .i64 q,.int .i64 a,.int .i64 wd,.int .i64 h,.int .i64 wt,.int .i64 x,.int .i64 z,.int .u32 s,.string d,v] 25));obtain ⟨x0,x1,x2,x3,x4,x5,x6,x7,x8,x9,x10,x11,x12,x13,x14⟩:=zaa (heap_alloc_new w (.cells #[.int .i64 k,.int .i64 f,.int .i64 t,.int .i64 i,.int .i64 p,.int .i64 q,.int .i64 a,.int .i64 wd,.int .i64 h,.int .i64 wt,.int .i64 x,.int .i64 z,.int .u32 s,.string d,v] 25))
 rcases D with ⟨h1,rfl⟩ | ⟨h1,h2,rfl⟩ | ⟨h1,h2,h3,rfl⟩ | ⟨h1,h2,h3,h4,rfl⟩ | ⟨h1,h2,h3,h4,h5,rfl⟩ | ⟨h1,h2,h3,h4,h5,h6,rfl⟩ | ⟨h1,h2,h3,h4,h5,h6,h7⟩
 all_goals
  go_enter Try.func28,Try.ntmps28
  go_wp2_with ((refine (C.out _ _ _ _).mono ?_);rintro e w' ⟨rfl,rfl⟩)
  go_ret;exact ⟨rfl,HA.out⟩
theorem zeros5 {a b c d e:Int}:zeros [a,b,c,d,e]=true↔a=0/\b=0/\c=0/\d=0/\e=0:=by simp [zeros]
theorem zeros6 {a b c d e f:Int}:zeros [a,b,c,d,e,f]=true↔a=0/\b=0/\c=0/\d=0/\e=0/\f=0:=by simp [zeros]
theorem zeros4 {a b c d:Int}:zeros [a,b,c,d]=true↔a=0/\b=0/\c=0/\d=0:=by simp [zeros]
theorem zab {w w':World} {v:Value} {rs:List Rp.Rec} (h:zae w v rs) (hb:Below w.heap.size w w'):zae w' v rs:=h.below hb (Nat.le_refl _)
theorem zfB {α:Type} {l:List α} (h:(l.length:Int)=0):l=[]:=List.length_eq_zero_iff.1 (by omega)
theorem zdy {m:Ms} (h1:m.k≠1) (h2:m.k≠2) (h3:m.k≠3):¬Tail m:=by
 rintro (h | h | h)
 · exact h1 h.k
 · exact h2 h.k
 · exact h3 h.k
theorem zd6 {m:Ms} (h:m.k=1):Tail m↔Fetch m:=by
 constructor
 · rintro (h1 | h1 | h1)
   · exact h1
   · have:=h1.k;omega
   · have:=h1.k;omega
 · exact .inl
theorem zd5 {m:Ms} (h:m.k=2):Tail m↔Batch m:=by
 constructor
 · rintro (h1 | h1 | h1)
   · have:=h1.k;omega
   · exact h1
   · have:=h1.k;omega
 · exact fun h=> .inr (.inl h)
theorem zcA {m:Ms} (h:m.k=3):Tail m↔Chunk m:=by
 constructor
 · rintro (h1 | h1 | h1)
   · have:=h1.k;omega
   · have:=h1.k;omega
   · exact h1
 · exact fun h=> .inr (.inr h)
theorem zeS (m:Ms) (b:Bool) (hk:m.k=1) (hb:b=true↔Tail m):
 (inI m.wd 0 65536=false/\b=false)\/(inI m.wd 0 65536=true/\inI m.wt 0 1099511627776=false/\b=false)\/(inI m.wd 0 65536=true/\inI m.wt 0 1099511627776=true/\inI m.x 0 65536=false/\b=false)\/
 (inI m.wd 0 65536=true/\inI m.wt 0 1099511627776=true/\inI m.x 0 65536=true/\zeros [m.h,m.z,m.s,(m.d.size:Int),(m.l.length:Int)]=b):=by
 rw [zd6 hk] at hb
 have no:¬Fetch m->b=false:=fun h=>by rw [<-Bool.not_eq_true,hb];exact h
 rcases h1:inI m.wd 0 65536 with _ | _
 · exact .inl ⟨rfl,no fun h=>zam h1 ⟨h.wd0,h.wd1⟩⟩
 rcases h2:inI m.wt 0 1099511627776 with _ | _
 · exact .inr (.inl ⟨rfl,rfl,no fun h=>zam h2 ⟨h.wt0,h.wt1⟩⟩)
 rcases h3:inI m.x 0 65536 with _ | _
 · exact .inr (.inr (.inl ⟨rfl,rfl,rfl,no fun h=>zam h3 ⟨h.x0,h.x1⟩⟩))
 refine .inr (.inr (.inr ⟨rfl,rfl,rfl,?_⟩))
 rcases h4:zeros [m.h,m.z,m.s,(m.d.size:Int),(m.l.length:Int)] with _ | _
 · refine (no fun h=>?_).symm
   have:zeros [m.h,m.z,m.s,(m.d.size:Int),(m.l.length:Int)]=true:=zeros5.2 ⟨h.h,h.z,h.s,by have:=h.d;omega,by rw [h.l];rfl⟩
   rw [h4] at this;cases this
 · obtain ⟨z1,z2,z3,z4,z5⟩:=zeros5.1 h4
   have a1:=zak h1
   have a2:=zak h2;have a3:=zak h3;exact (hb.2 ⟨hk,a1.1,a1.2,a2.1,a2.2,a3.1,a3.2,z1,z2,z3,by omega,zfB z5⟩).symm
theorem zeX (m:Ms) (b:Bool) (hk:m.k=2) (hb:b=true↔Tail m):
 (inI m.h 0 1099511627776=false/\b=false)\/
 ∃c,(c=true↔zdK m.a m.l)/\((inI m.h 0 1099511627776=true/\c=false/\b=false)\/(inI m.h 0 1099511627776=true/\c=true/\zeros [m.wd,m.wt,m.x,m.z,m.s,(m.d.size:Int)]=b)):=by
 rw [zd5 hk] at hb
 have no:¬Batch m->b=false:=fun h=>by rw [<-Bool.not_eq_true,hb];exact h
 rcases h1:inI m.h 0 1099511627776 with _ | _
 · exact .inl ⟨rfl,no fun h=>zam h1 ⟨h.h0,h.h1⟩⟩
 by_cases h2:zdK m.a m.l
 · refine .inr ⟨true,⟨fun _=>h2,fun _=>rfl⟩,.inr ⟨rfl,rfl,?_⟩⟩
   rcases h4:zeros [m.wd,m.wt,m.x,m.z,m.s,(m.d.size:Int)] with _ | _
   · refine (no fun h=>?_).symm
     have:zeros [m.wd,m.wt,m.x,m.z,m.s,(m.d.size:Int)]=true:=zeros6.2 ⟨h.wd,h.wt,h.x,h.z,h.s,by have:=h.d;omega⟩
     rw [h4] at this;cases this
   · obtain ⟨z1,z2,z3,z4,z5,z6⟩:=zeros6.1 h4
     have a1:=zak h1
     exact (hb.2 ⟨hk,a1.1,a1.2,h2,z1,z2,z3,z4,z5,by omega⟩).symm
 · exact .inr ⟨false,⟨(fun h=>by cases h),fun h=>absurd h h2⟩,.inl ⟨rfl,rfl,no fun h=>h2 h.l⟩⟩
theorem zeT (m:Ms) (b:Bool) (hk:m.k=3) (hs:0<=m.s/\m.s<4294967296) (hb:b=true↔Tail m):
 (inI m.z 1 65536=false/\b=false)\/(inI m.z 1 65536=true/\inI m.x 0 m.z=false/\b=false)\/(inI m.z 1 65536=true/\inI m.x 0 m.z=true/\decide ((m.d.size:Int)<=4096)=false/\b=false)\/
 (inI m.z 1 65536=true/\inI m.x 0 m.z=true/\decide ((m.d.size:Int)<=4096)=true/\zeros [m.wd,m.h,m.wt,(m.l.length:Int)]=b):=by
 rw [zcA hk] at hb
 have no:¬Chunk m->b=false:=fun h=>by rw [<-Bool.not_eq_true,hb];exact h
 rcases h1:inI m.z 1 65536 with _ | _
 · exact .inl ⟨rfl,no fun h=>zam h1 ⟨h.z0,h.z1⟩⟩
 rcases h2:inI m.x 0 m.z with _ | _
 · exact .inr (.inl ⟨rfl,rfl,no fun h=>zam h2 ⟨h.x0,h.x1⟩⟩)
 by_cases h3:(m.d.size:Int)<=4096
 · refine .inr (.inr (.inr ⟨rfl,rfl,by simpa using h3,?_⟩))
   rcases h4:zeros [m.wd,m.h,m.wt,(m.l.length:Int)] with _ | _
   · refine (no fun h=>?_).symm
     have:zeros [m.wd,m.h,m.wt,(m.l.length:Int)]=true:=zeros4.2 ⟨h.wd,h.h,h.wt,by rw [h.l];rfl⟩
     rw [h4] at this;cases this
   · obtain ⟨z1,z2,z3,z4⟩:=zeros4.1 h4
     have a1:=zak h1
     have a2:=zak h2;exact (hb.2 ⟨hk,a1.1,a1.2,a2.1,a2.2,by omega,hs.1,hs.2,z1,z2,z3,zfB z4⟩).symm
 · exact .inr (.inr (.inl ⟨rfl,rfl,by simpa using h3,no fun h=>h3 (by have:=h.d;omega)⟩))
theorem zcH (l:List Int) (n:Nat) (cs:Array Value) (hcs:cs=(IL.vals l).toArray) (hn:n=l.length) (hl:l.length<=10) (hok:∀x∈l,I64 x) (W:World) (g:Nat) (hg:W.heap.size=g):
 Calls Try.prog 54 #[.slice (some ⟨g,0,none⟩) n n] (W.alloc (.cells cs 3)) fun e w'=>e= .returned (.bool (zeros l))/\W.alloc (.cells cs 3)=w':=by
 subst hcs hg;exact zez _ n n l _ (zcs W l n hn (by unfold maxLen;omega) hok) (by omega)
theorem zcS (va:Option Addr) (vn vc:Nat) (m:Ms) (b:Bool) (w:World) (hv:zae w (.slice va vn vc) m.l) (hB:MsB m) (hh:0<=m.a/\m.a<=1099511627776) (hb:b=true↔Tail m):
 Calls Try.prog 29 #[zag (.slice va vn vc) m] w fun e w'=>e= .returned (.bool b)/\Below w.heap.size w w':=by
 have D:m.k=1\/m.k=2\/m.k=3\/((m.k==1)=false/\(m.k==2)=false/\(m.k==3)=false):=by
  by_cases h1:m.k=1
  · exact .inl h1
  by_cases h2:m.k=2
  · exact .inr (.inl h2)
  by_cases h3:m.k=3
  · exact .inr (.inr (.inl h3))
  exact .inr (.inr (.inr ⟨by simpa using h1,by simpa using h2,by simpa using h3⟩))
 have C:=zid fun (n lo hi:Int) (W:World)=>zb8 n lo hi W
 obtain ⟨hvl,hml⟩:vn=m.l.length/\m.l.length<=9223372036854775807:=by
  obtain ⟨_,_,h,hm,_⟩:=hv;unfold maxLen at hm
  injection h with _ h
  exact ⟨h,hm⟩
 have bh:=hB.h;have bz:=hB.z;have bs:=hB.s;have bd:=hB.d;have bwd:=hB.wd;have bwt:=hB.wt;have bx:=hB.x;unfold I64 at bh bz bwd bwt bx;have HV:=zid hv;obtain ⟨k,f,t,i,p,q,a,wd,h,wt,x,z,s,d,l⟩:=m;dsimp only at*;rw [<-hvl] at hml
 have hin:∀L:List Int,(∀y∈L,y=h\/y=z\/y=s\/y=(d.size:Int)\/y=(vn:Int)\/y=wd\/y=wt\/y=x)->∀y∈L,I64 y:=fun L hL y hy=>by
  have:=hL y hy;unfold I64;omega
 have HA:=zid ((Below.refl w.heap.size w).alloc (Nat.le_refl _) (.cells #[.int .i64 k,.int .i64 f,.int .i64 t,.int .i64 i,.int .i64 p,.int .i64 q,.int .i64 a,.int .i64 wd,.int .i64 h,.int .i64 wt,.int .i64 x,.int .i64 z,.int .u32 s,.string d,.slice va vn vc] 25));obtain ⟨x0,x1,x2,x3,x4,x5,x6,x7,x8,x9,x10,x11,x12,x13,x14⟩:=zaa (heap_alloc_new w (.cells #[.int .i64 k,.int .i64 f,.int .i64 t,.int .i64 i,.int .i64 p,.int .i64 q,.int .i64 a,.int .i64 wd,.int .i64 h,.int .i64 wt,.int .i64 x,.int .i64 z,.int .u32 s,.string d,.slice va vn vc] 25))
 rcases D with hk | hk | hk | ⟨k1,k2,k3⟩
 · have D:=zeS _ b hk hb
   dsimp only at D
   rw [<-hvl] at D;have E:=zid (zcH [h,z,s,(d.size:Int),(vn:Int)] 5 #[.int .i64 h,.int .i64 z,.int .i64 s,.int .i64 (d.size:Int),.int .i64 (vn:Int)] rfl rfl (by simp) (hin _ (by simp)));subst hk;unfold zag;dsimp only;clear hb hB hh hv hvl hin
   rcases D with ⟨h1,rfl⟩ | ⟨h1,h2,rfl⟩ | ⟨h1,h2,h3,rfl⟩ | ⟨h1,h2,h3,h4⟩
   all_goals
    go_enter Try.func29,Try.ntmps29
    go_wp2_with ((with_reducible refine (C.out _ _ _ _).mono ?_);rintro e w' ⟨rfl,rfl⟩)
   · go_ret
     exact ⟨rfl,HA.out⟩
   · go_ret
     exact ⟨rfl,HA.out⟩
   · go_ret
     exact ⟨rfl,HA.out⟩
   · refine (E.out _ _ (by simp)).mono ?_
     rintro e w' ⟨rfl,rfl⟩
     have HA2:=zid (HA.out.alloc HA.out.size (.cells #[.int .i64 h,.int .i64 z,.int .i64 s,.int .i64 (d.size:Int),.int .i64 (vn:Int)] 3));go_wp2_with fail;go_ret;exact ⟨rfl,HA2.out⟩
 · have D:=zeX _ b hk hb
   dsimp only at D
   have E:=zid (zcH [wd,wt,x,z,s,(d.size:Int)] 6 #[.int .i64 wd,.int .i64 wt,.int .i64 x,.int .i64 z,.int .i64 s,.int .i64 (d.size:Int)] rfl rfl (by simp) (hin _ (by simp)));subst hk;unfold zag;dsimp only;have hh0:=hh.1;have hh1:=hh.2;clear hb hB hh hvl hin
   rcases D with ⟨h1,rfl⟩ | ⟨c,hc,D⟩
   · clear hv
     go_enter Try.func29,Try.ntmps29
     go_wp2_with ((with_reducible refine (C.out _ _ _ _).mono ?_);rintro e w' ⟨rfl,rfl⟩)
     go_ret;exact ⟨rfl,HA.out⟩
   · have R:=zid (zcT a va vn vc l c _ (zab HV.out HA.out) hh0 hh1 hc)
     clear hc hv
     rcases D with ⟨h1,rfl,rfl⟩ | ⟨h1,rfl,h3⟩
     · go_enter Try.func29,Try.ntmps29
       go_wp2_with ((with_reducible refine (C.out _ _ _ _).mono ?_);rintro e w' ⟨rfl,rfl⟩)
       refine R.out.mono ?_;rintro e w1 ⟨rfl,b1⟩;have HA2:=zid (HA.out.trans (b1.mono HA.out.size));clear b1;go_wp2_with fail;go_ret;exact ⟨rfl,HA2.out⟩
     · go_enter Try.func29,Try.ntmps29
       go_wp2_with ((with_reducible refine (C.out _ _ _ _).mono ?_);rintro e w' ⟨rfl,rfl⟩)
       refine R.out.mono ?_;rintro e w1 ⟨rfl,b1⟩;have HA2:=zid (HA.out.trans (b1.mono HA.out.size));obtain ⟨x0,x1,x2,x3,x4,x5,x6,x7,x8,x9,x10,x11,x12,x13,x14⟩:=zaa ((b1.block w.heap.size (by simp)).trans (heap_alloc_new w (.cells #[.int .i64 2,.int .i64 f,.int .i64 t,.int .i64 i,.int .i64 p,.int .i64 q,.int .i64 a,.int .i64 wd,.int .i64 h,.int .i64 wt,.int .i64 x,.int .i64 z,.int .u32 s,.string d,.slice va vn vc] 25)));clear b1;go_wp2_with fail;refine (E.out _ _ rfl).mono ?_;rintro e w' ⟨rfl,rfl⟩;have HA3:=zid (HA2.out.alloc HA2.out.size (.cells #[.int .i64 wd,.int .i64 wt,.int .i64 x,.int .i64 z,.int .i64 s,.int .i64 (d.size:Int)] 3));go_wp2_with fail;go_ret;exact ⟨rfl,HA3.out⟩
 · have D:=zeT _ b hk hB.s hb
   dsimp only at D
   rw [<-hvl] at D;have E:=zid (zcH [wd,h,wt,(vn:Int)] 4 #[.int .i64 wd,.int .i64 h,.int .i64 wt,.int .i64 (vn:Int)] rfl rfl (by simp) (hin _ (by simp)));subst hk;unfold zag;dsimp only;clear hb hB hh hv hvl hin
   rcases D with ⟨h1,rfl⟩ | ⟨h1,h2,rfl⟩ | ⟨h1,h2,h3,rfl⟩ | ⟨h1,h2,h3,h4⟩
   all_goals
    go_enter Try.func29,Try.ntmps29
    go_wp2_with ((with_reducible refine (C.out _ _ _ _).mono ?_);rintro e w' ⟨rfl,rfl⟩)
   · go_ret
     exact ⟨rfl,HA.out⟩
   · go_ret
     exact ⟨rfl,HA.out⟩
   · go_ret
     exact ⟨rfl,HA.out⟩
   · refine (E.out _ _ (by simp)).mono ?_
     rintro e w' ⟨rfl,rfl⟩
     have HA2:=zid (HA.out.alloc HA.out.size (.cells #[.int .i64 wd,.int .i64 h,.int .i64 wt,.int .i64 (vn:Int)] 3));go_wp2_with fail;go_ret;exact ⟨rfl,HA2.out⟩
 · obtain rfl:b=false:=by
    rw [<-Bool.not_eq_true,hb];exact zdy (by simpa using k1) (by simpa using k2) (by simpa using k3)
   unfold zag;dsimp only;clear hb hB hh hv hvl hin
   go_enter Try.func29,Try.ntmps29
   go_wp2_with fail;go_ret;exact ⟨rfl,HA.out⟩
theorem zav (w:World) (cs:Array Value):(w.alloc (.cells cs 25)).heap[w.heap.size]?=some (.cells cs 25 (0,0)):=heap_alloc_new w _
theorem zaK (va:Option Addr) (vn vc:Nat) (m:Ms) (b:Bool) (w:World) (hv:zae w (.slice va vn vc) m.l) (hB:MsB m) (hb:b=true↔Ok m):
 Calls Try.prog 13 #[zag (.slice va vn vc) m] w fun e w'=>e= .returned (.bool b)/\Below w.heap.size w w':=by
 have HA:=zid ((Below.refl w.heap.size w).alloc (Nat.le_refl _) (.cells #[.int .i64 m.k,.int .i64 m.f,.int .i64 m.t,.int .i64 m.i,.int .i64 m.p,.int .i64 m.q,.int .i64 m.a,.int .i64 m.wd,.int .i64 m.h,.int .i64 m.wt,.int .i64 m.x,.int .i64 m.z,.int .u32 m.s,.string m.d,.slice va vn vc] 25))
 have D:(Head m/\(b=true↔Tail m))\/(¬Head m/\b=false):=by
  by_cases h:Head m
  · exact .inl ⟨h,hb.trans ⟨fun h=>h.2,fun h2=>⟨h,h2⟩⟩⟩
  · exact .inr ⟨h,by rw [<-Bool.not_eq_true,hb];exact fun h2=>h h2.1⟩
 rcases D with ⟨hh,ht⟩ | ⟨hh,rfl⟩
 · have H:=fun W=>zbA (.slice va vn vc) m true W ⟨fun _=>hh,fun _=>rfl⟩
   have T:=fun W (hW:Below w.heap.size w W)=>zcS va vn vc m b W (zab hv hW) hB ⟨hh.a0,hh.a1⟩ ht
   unfold zag at*;replace H:=zid H;replace T:=zid T;clear hh ht hb hB hv;obtain ⟨k,f,t,i,p,q,a,wd,h,wt,x,z,s,d,l⟩:=m;dsimp only at*
   go_enter Try.func13,Try.ntmps13
   obtain ⟨x0,x1,x2,x3,x4,x5,x6,x7,x8,x9,x10,x11,x12,x13,x14⟩:=zaa (zav w #[.int .i64 k,.int .i64 f,.int .i64 t,.int .i64 i,.int .i64 p,.int .i64 q,.int .i64 a,.int .i64 wd,.int .i64 h,.int .i64 wt,.int .i64 x,.int .i64 z,.int .u32 s,.string d,.slice va vn vc]);go_wp2_with fail;refine (H.out _).mono ?_;rintro e w1 ⟨rfl,b1⟩;have HA2:=zid (HA.out.trans (b1.mono HA.out.size));obtain ⟨y0,y1,y2,y3,y4,y5,y6,y7,y8,y9,y10,y11,y12,y13,y14⟩:=zaa ((b1.block w.heap.size (by simp)).trans (zav w #[.int .i64 k,.int .i64 f,.int .i64 t,.int .i64 i,.int .i64 p,.int .i64 q,.int .i64 a,.int .i64 wd,.int .i64 h,.int .i64 wt,.int .i64 x,.int .i64 z,.int .u32 s,.string d,.slice va vn vc]));clear b1;go_wp2_with fail;refine (T.out _ HA2.out).mono ?_;rintro e w2 ⟨rfl,b2⟩;have HA3:=zid (HA2.out.trans (b2.mono HA2.out.size));clear b2;go_wp2_with fail;go_ret;exact ⟨rfl,HA3.out⟩
 · have H:=fun W=>zbA (.slice va vn vc) m false W ⟨(fun h=>by cases h),fun h=>absurd h hh⟩
   unfold zag at*
   replace H:=zid H;clear hh hb hB hv;obtain ⟨k,f,t,i,p,q,a,wd,h,wt,x,z,s,d,l⟩:=m;dsimp only at*
   go_enter Try.func13,Try.ntmps13
   obtain ⟨x0,x1,x2,x3,x4,x5,x6,x7,x8,x9,x10,x11,x12,x13,x14⟩:=zaa (zav w #[.int .i64 k,.int .i64 f,.int .i64 t,.int .i64 i,.int .i64 p,.int .i64 q,.int .i64 a,.int .i64 wd,.int .i64 h,.int .i64 wt,.int .i64 x,.int .i64 z,.int .u32 s,.string d,.slice va vn vc]);go_wp2_with fail;refine (H.out _).mono ?_;rintro e w1 ⟨rfl,b1⟩;have HA2:=zid (HA.out.trans (b1.mono HA.out.size));clear b1;go_wp2_with fail;go_ret;exact ⟨rfl,HA2.out⟩
end Wr
end Go.Proofs.Ytmkdcpjlhphhiaa

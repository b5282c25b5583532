/-
  Parts of what the laws of this seat stand on:CrcPlain,FramePlain,WirMsg,FrameRef,zbV,RecFew,WirLd,WirOpen.
-/
import Derived.ChangeSame
import Derived.Laws.IdiomStrings
import Derived.Laws.NewBlocks
import Derived.Laws.Rows
import Derived.Laws.Tables
import Derived.Lib.Hide
import Derived.Lib.SmallJoins
import Derived.Outline
import Derived.Test.YtmkdcpjlhphhiaaBj1
import Derived.Test.YtmkdcpjlhphhiaaBj10
import Derived.Test.YtmkdcpjlhphhiaaBj13
import Derived.Test.YtmkdcpjlhphhiaaBj17
import Derived.Test.YtmkdcpjlhphhiaaBj18
import Derived.Test.YtmkdcpjlhphhiaaBj2
import Derived.Test.YtmkdcpjlhphhiaaBj4
import Derived.Test.YtmkdcpjlhphhiaaBj5
import Derived.Test.YtmkdcpjlhphhiaaBj7
import Derived.Test.YtmkdcpjlhphhiaaProg
import Derived.WalkKit
import Derived.WalkSpells
set_option maxRecDepth 100000
set_option maxHeartbeats 6400000
namespace Go.Proofs.Ytmkdcpjlhphhiaa
namespace Cp
theorem bit_pos {x:Nat} (h:x<4294967296) (h0:0<x):0<bit x:=by
 unfold bit
 rcases Nat.mod_two_eq_zero_or_one x with a | a
 · rw [a,Nat.zero_mul,Nat.xor_zero];omega
 · rw [a,Nat.one_mul]
   rcases Nat.eq_zero_or_pos (x/2^^^poly) with e | e
   · exfalso
     have e2:x/2=poly:=by
      have h:=congrArg (fun z=>z^^^poly) e;simp only [Nat.xor_assoc,Nat.xor_self,Nat.xor_zero,Nat.zero_xor] at h;exact h
     have:x/2<2147483648:=by omega
     rw [e2] at this;exact absurd this (by decide)
   · exact e
theorem bitN_pos (n:Nat) {x:Nat} (h:x<4294967296) (h0:0<x):0<bitN n x:=by
 induction n generalizing x with
 | zero=>exact h0
 | succ n ih=>exact ih (bit_lt h) (bit_pos h h0)
theorem on_cons (x:Nat) (b:UInt8) (l:List UInt8):on x (b::l)=on (byte x b) l:=rfl
def num:List UInt8->Nat
 | []=>0
 | b::l=>b.toNat^^^(2^8*num l)
theorem on_num (x:Nat) (l:List UInt8):on x l=bitN (8*l.length) (x^^^num l):=by
 induction l generalizing x with
 | nil=>simp [on,num,bitN]
 | cons b l ih=>
  rw [on_cons,ih,List.length_cons,show 8*(l.length+1)=8+8*l.length from by omega,zb7,num, <-Nat.xor_assoc,zc8 8,zbU]
  rfl
theorem shl_xor (k a b:Nat):2^k*(a^^^b)=(2^k*a)^^^(2^k*b):=by
 have:= @Nat.shiftLeft_xor_distrib k a b
 simpa [Nat.shiftLeft_eq,Nat.mul_comm] using this
theorem burst (s:Nat) (a b:List UInt8) (k e:Nat) (hab:b.length=a.length) (hk:k<8*a.length) (he:e<4294967296) (h0:0<e) (hn:num b=num a^^^(2^k*e)):
 sum s b≠sum s a:=by
 intro h;unfold sum at h;have l1:=on_lt a (turn_lt s);have l2:=on_lt b (turn_lt s)
 have h2:on (turn s) b=on (turn s) a:=by unfold turn at*;omega
 rw [on_num,on_num,hab,hn, <-Nat.xor_assoc,zc8 _ (turn s^^^num a)] at h2
 have h3:bitN (8*a.length) (2^k*e)=0:=by
  have e4:=congrArg (fun z=>bitN (8*a.length) (turn s^^^num a)^^^z) h2;simp only [<-Nat.xor_assoc,Nat.xor_self,Nat.zero_xor] at e4;exact e4
 rw [show 8*a.length=k+(8*a.length-k) from by omega,zb7,zbU] at h3;have:=bitN_pos (8*a.length-k) he h0;omega
end Cp
section
namespace Fr
theorem zfs:∀(k n:Nat) (i:Nat) (hi:i+1<(Vp.putF k n).length),128<=((Vp.putF k n)[i]'(by omega)).toNat:=by
 intro k
 induction k with
 | zero=>intro n i hi;simp [Vp.putF] at hi
 | succ k ih=>
  intro n i hi
  by_cases hn:n<128
  · rw [Vp.putF_one hn] at hi;simp at hi
  · have e:=Vp.putF_cons (k:=k) hn
    cases i with
    | zero=>
     have:(Vp.putF (k+1) n)[0]'(by omega)=UInt8.ofNat (128+n%128):=by simp [e]
     rw [this,Vp.ofNat_toNat_lt _ (by omega)];omega
    | succ i=>
     have h2:i+1<(Vp.putF k (n/128)).length:=by rw [e] at hi;simpa using hi
     have:(Vp.putF (k+1) n)[i+1]'(by omega)=(Vp.putF k (n/128))[i]'(by omega):=by simp [e]
     rw [this];exact ih _ i h2
theorem cutB_put (n k:Nat) (h:k<(Vp.put n).length):cutB ((Vp.put n).take k)=true:=by
 have h9:=Vp.put_len_le n;unfold cutB;rw [Bool.and_eq_true];refine ⟨by rw [List.length_take];simp;omega,?_⟩;rw [List.all_eq_true];intro b hb;obtain ⟨i,hi,rfl⟩:=List.mem_iff_getElem.1 hb
 have hi':i<k/\i<(Vp.put n).length:=by rw [List.length_take] at hi;omega
 rw [List.getElem_take];exact decide_eq_true (zfs 9 n i (by unfold Vp.put at h;omega))
theorem nx_fr_cut (b:List UInt8) (k:Nat) (h:May b.length) (hk:k<(fr b).length):nx ((fr b).take k)=(2,0,[]):=by
 have hlen:=fr_len b
 by_cases hp:k<(Vp.put b.length).length
 · refine nx_cut ?_
   have e:(fr b).take k=(Vp.put b.length).take k:=by
    unfold fr;rw [List.append_assoc,List.take_append_of_le_length (by omega)]
   rw [e];exact cutB_put _ _ hp
 · obtain ⟨d,hd⟩:∃d,k=(Vp.put b.length).length+d:=⟨k-(Vp.put b.length).length,by omega⟩
   have e:(fr b).take k=Vp.put b.length++(four (Cp.sum 0 (Vp.put b.length++b))++b).take d:=by
    unfold fr;rw [List.append_assoc,hd,List.take_length_add_append]
   have ht:=Vp.take_put b.length ((four (Cp.sum 0 (Vp.put b.length++b))++b).take d) (by unfold May at h;omega);rw [<-e] at ht;exact nx_short ht h (by rw [List.length_take];omega)
theorem zdx (l:List UInt8) (j e:Nat) (h:j<l.length) (c:UInt8) (hc:c.toNat=l[j].toNat^^^e):
 Cp.num (l.set j c)=Cp.num l^^^(2^(8*j)*e):=by
 induction l generalizing j with
 | nil=>simp at h
 | cons b l ih=>
  cases j with
  | zero=>
   simp only [List.getElem_cons_zero] at hc;show c.toNat^^^(2^8*Cp.num l)=_;rw [hc,Cp.num];simp only [Nat.mul_zero,Nat.pow_zero,Nat.one_mul]
   ac_rfl
  | succ j=>
   simp only [List.getElem_cons_succ] at hc;have:=ih j (by simpa using h) hc;show b.toNat^^^(2^8*Cp.num (l.set j c))=_;rw [this,Cp.shl_xor,Cp.num, <-Nat.mul_assoc, <-Nat.pow_add,show 8+8*j=8*(j+1) from by omega]
   ac_rfl
theorem sum_set (s:Nat) (l:List UInt8) (j e:Nat) (h:j<l.length) (c:UInt8) (hc:c.toNat=l[j].toNat^^^e) (h0:0<e) (he:e<256):
 Cp.sum s (l.set j c)≠Cp.sum s l:=
 Cp.burst s l (l.set j c) (8*j) e (by simp) (by omega) (by omega) h0 (zdx l j e h c hc)
theorem nx_turned (b:List UInt8) (k e:Nat) (hm:May b.length) (hk:(Vp.put b.length).length<=k) (hk2:k<(fr b).length) (c:UInt8)
 (hc:c.toNat=((fr b)[k]).toNat^^^e) (h0:0<e) (he:e<256):nx ((fr b).set k c)=(4,0,[]):=by
 have hlen:=fr_len b;obtain ⟨P,hP⟩:∃P,Vp.put b.length=P:=⟨_,rfl⟩;obtain ⟨F,hF⟩:∃F,four (Cp.sum 0 (P++b))=F:=⟨_,rfl⟩
 have hF4:F.length=4:=by rw [<-hF];rfl
 have e0:fr b=P++F++b:=by unfold fr;rw [hP,hF]
 rw [hP] at hk hlen
 have hne:c≠(fr b)[k]:=by
  intro hh;rw [hh] at hc;have h1:=congrArg (fun z=>((fr b)[k]).toNat^^^z) hc;simp only [Nat.xor_self, <-Nat.xor_assoc,Nat.zero_xor] at h1;omega
 by_cases h4:k<P.length+4
 · -- the sum
   obtain ⟨d,hd⟩:∃d,k=P.length+d:=⟨k-P.length,by omega⟩
   have e1:(fr b).set k c=P++(F.set d c++b):=by
    rw [e0,List.append_assoc,hd,List.set_append_right _ _ (by omega),show P.length+d-P.length=d from by omega,List.set_append_left _ _ (by omega)]
   have hFd:F.set d c≠F:=by
    intro hh
    have h2:F[d]'(by omega)=c:=by
     have h3:(F.set d c)[d]'(by rw [List.length_set];omega)=c:=by simp
     rw [<-h3];congr 1;exact hh.symm
    have h5:(fr b)[k]=F[d]'(by omega):=by
     simp only [e0,List.append_assoc];rw [List.getElem_append_right (by omega),List.getElem_append_left (by omega)]
     congr 1;omega
    exact hne (by rw [h5,h2])
   have ht:=Vp.take_put b.length (F.set d c++b) (by unfold May at hm;omega);rw [hP, <-e1] at ht;refine nx_sum ht hm (by rw [List.length_set];omega) ?_
   have q0:((fr b).set k c).take P.length=P:=by rw [e1,List.take_left'];rfl
   have q1:((fr b).set k c).drop P.length=F.set d c++b:=by rw [e1,List.drop_left'];rfl
   have q2:((fr b).set k c).drop (P.length+4)=b:=by rw [<-List.drop_drop,q1,List.drop_left'];rw [List.length_set];exact hF4
   rw [q2,List.take_of_length_le (l:=b) (i:=b.length) (Nat.le_refl _),q0,q1,List.take_left' (by rw [List.length_set];exact hF4),hF];exact fun hh=>hFd hh.symm
 · -- the body
   obtain ⟨d,hd⟩:∃d,k=P.length+4+d:=⟨k-P.length-4,by omega⟩
   have hdb:d<b.length:=by omega
   have e1:(fr b).set k c=P++(F++b.set d c):=by
    rw [e0,List.append_assoc,hd,List.set_append_right _ _ (by omega),show P.length+4+d-P.length=4+d from by omega,List.set_append_right _ _ (by omega),show 4+d-F.length=d from by omega]
   have h5:(fr b)[k]=b[d]:=by
    simp only [e0,List.append_assoc];rw [List.getElem_append_right (by omega),List.getElem_append_right (by omega)]
    congr 1;omega
   have ht:=Vp.take_put b.length (F++b.set d c) (by unfold May at hm;omega);rw [hP, <-e1] at ht;refine nx_sum ht hm (by rw [List.length_set];omega) ?_
   have q0:((fr b).set k c).take P.length=P:=by rw [e1,List.take_left'];rfl
   have q1:((fr b).set k c).drop P.length=F++b.set d c:=by rw [e1,List.drop_left'];rfl
   have q2:((fr b).set k c).drop (P.length+4)=b.set d c:=by rw [<-List.drop_drop,q1,List.drop_left'];exact hF4
   rw [q2,List.take_of_length_le (l:=b.set d c) (i:=b.length) (by rw [List.length_set];exact Nat.le_refl _),q0,q1,List.take_left' hF4];intro hh;rw [<-hF] at hh;have hsum:=four_inj (Cp.sum_lt _ _) (Cp.sum_lt _ _) hh
   have e2:P++b.set d c=(P++b).set (P.length+d) c:=by
    rw [List.set_append_right _ _ (by omega),show P.length+d-P.length=d from by omega]
   rw [e2] at hsum;refine sum_set 0 (P++b) (P.length+d) e (by rw [List.length_append];omega) c ?_ h0 he hsum;rw [hc,h5,List.getElem_append_right (by omega)]
   congr 2
   simp
end Fr
end
namespace Wq
open Qm
variable {off:Int->Nat->Int}
theorem getW_cut {m:Ms} (h:Ok m) {n:Nat} (hn:n<(Fr.fr (body m)).length):getW ((Fr.fr (body m)).take n)=(zero,2):=zb6 (Fr.nx_fr_cut _ _ (body_may h) hn) (by decide)
end Wq
section
open Go.RowKit
theorem rfput_no (s:ByteArray) (w:World) (hs:s.size<=maxLen) (h:¬Fr.May s.size):
 Calls Try.prog 16 #[.string s] w fun e w'=>e= .returned (.tuple #[.string ⟨#[]⟩,.int .i64 5])/\w=w':=by
 unfold maxLen at hs
 by_cases h1:(s.size:Int)<1
 · clear h
   go_enter Try.func16,Try.ntmps16
   go_wp2_with fail;go_ret2;exact ⟨rfl,rfl⟩
 · have h2:(65536:Int)<(s.size:Int):=by unfold Fr.May at h;omega
   have h3:decide ((s.size:Int)<1)=false:=by simp;omega
   clear h
   go_enter Try.func16,Try.ntmps16
   go_wp2_with fail;go_ret2;exact ⟨rfl,rfl⟩
end
section
open Go.RowKit Go.Lib
theorem zbV.set {w:World} {B:Nat} {l:List UInt8} (h:zbV w B l) {j:Nat} (hj:j<l.length) (c:UInt8):
 zbV (w.setCell ⟨B,j,none⟩ (.int .u8 (c.toNat:Int))) B (l.set j c):=by
 intro i hi
 have hi':i<l.length:=by simpa using hi
 refine ⟨?_,by rw [World.frozen?_setCell];exact (h i hi').2⟩
 by_cases e:j=i
 · subst e
   rw [World.cell?_setCell_same _ _ _ (h j hj).1]
   simp
 · rw [World.cell?_setCell_other _ _ _ _ (by intro hh;exact e (by injection hh)),(h i hi').1,List.getElem_set_ne e]
theorem zbV.conv {w:World} {B:Nat} {l:List UInt8} (h:zbV w B l) (cap:Nat):
 (convert 38 9 (.slice (some ⟨B,0,none⟩) l.length cap)).run Try.prog w= .ok (.string ⟨l.toArray⟩) w:=by
 refine run_convert_bytes_back w 38 9 5 ⟨B,0,none⟩ cap l Try.underlying38 Try.underlying5 Try.underlying9 (fun j hj=>?_)
 have e:(⟨B,0,none⟩:Addr).add j=⟨B,j,none⟩:=by unfold Addr.add;split<;>simp_all
 rw [e];exact (h j hj).1
end
section
open Go.RowKit
theorem fewB_le {rs:List Rp.Rec} {most:Int} (h:fewB rs most=true):(rs.length:Int)<=most:=by
 unfold fewB at h;rw [Bool.and_eq_true] at h;exact of_decide_eq_true h.1
end
namespace Wr
open Go.RowKit Qm Wq Mfs
def Mb (w:World) (L:List (Nat×Array Value)) (W:World):Prop:=Below w.heap.size w W/\∀p∈L,W.heap[p.1]?=some (.cells p.2 25 (0,0))
theorem Mb.start (w:World):Mb w [] w:=⟨Below.refl _ _,fun _ h=>absurd h List.not_mem_nil⟩
theorem Mb.at_ {w W:World} {L:List (Nat×Array Value)} {b:Nat} {cs:Array Value} (h:Mb w L W) (hm:(b,cs)∈L):W.heap[b]?=some (.cells cs 25 (0,0)):=h.2 _ hm
theorem Mb.lt {w W:World} {L:List (Nat×Array Value)} {b:Nat} {cs:Array Value} (h:Mb w L W) (hm:(b,cs)∈L):b<W.heap.size:=(Array.getElem?_eq_some_iff.1 (h.2 _ hm)).1
theorem Mb.keep {w W W':World} {L:List (Nat×Array Value)} (h:Mb w L W) (b:Below W.heap.size W W'):Mb w L W':=
 ⟨h.1.trans (b.mono h.1.size),fun p hp=>(b.block p.1 (Array.getElem?_eq_some_iff.1 (h.2 p hp)).1).trans (h.2 p hp)⟩
theorem Mb.alloc {w W:World} {L:List (Nat×Array Value)} (h:Mb w L W) (o:Obj):Mb w L (W.alloc o):=h.keep ((Below.refl _ _).alloc (Nat.le_refl _) o)
theorem Mb.new {w W:World} {L:List (Nat×Array Value)} (h:Mb w L W) (cs:Array Value):Mb w ((W.heap.size,cs)::L) (W.alloc (.cells cs 25)):=by
 refine ⟨(h.alloc _).1,fun p hp=>?_⟩
 rcases List.mem_cons.1 hp with rfl | hp
 · exact heap_alloc_new W _
 · exact (h.alloc _).2 p hp
theorem Mb.grown {w W W':World} {L:List (Nat×Array Value)} {ob:Option Nat} (h:Mb w L W) (g:W.grownBy W' ob) (hb:∀k,ob=some k->w.heap.size<=k/\∀p∈L,p.1≠k):Mb w L W':=
 ⟨h.1.grown g h.1.size (fun k hk=>(hb k hk).1),fun p hp=>(g.block p.1 (Array.getElem?_eq_some_iff.1 (h.2 p hp)).1 (fun e=>(hb p.1 e.symm).2 p hp rfl)).trans (h.2 p hp)⟩
theorem Mb.set {w W:World} {L:List (Nat×Array Value)} {q:Nat} {cs:Array Value} (h:Mb w ((q,cs)::L) W) (hq:w.heap.size<=q) (hL:∀p∈L,p.1≠q) (j:Nat) (u:Value):Mb w ((q,cs.setIfInBounds j u)::L) (W.setCell ⟨q,j,none⟩ u):=by
 refine ⟨h.1.setCell (p:=⟨q,j,none⟩) hq u,fun p hp=>?_⟩
 rcases List.mem_cons.1 hp with rfl | hp
 · exact heap_setCell_same W q j _ _ _ (h.2 _ mcs)
 · exact (Below.heap_setCell _ _ _ _ (hL p hp)).trans (h.2 p (mcm hp))
end Wr
namespace Wr
open Go.RowKit Go.ChangeShapes Go.WideShapes Go.Deep Go.Joins Qm Wq Mfs
theorem u16_wf16 {n:Int} (h:(Lit.int .u16 n).wf=true):0<=n/\n<=65535:=by
 simpa [Lit.wf,IntKind.min,IntKind.max,IntKind.signed,IntKind.bits] using h
theorem u8_wf16 {n:Int} (h:(Lit.int .u8 n).wf=true):0<=n/\n<=255:=by
 simpa [Lit.wf,IntKind.min,IntKind.max,IntKind.signed,IntKind.bits] using h
section
variable {H:Type} {enc:TypeId×Value->H} {w:World} {base:Nat} {spare:Nat->Bool} {held:Bool}
end
end Wr
end Go.Proofs.Ytmkdcpjlhphhiaa

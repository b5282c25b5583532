/-
  Parts of what the laws of this seat stand on:InsTk,InsLst,InsBack.
-/
import Derived.Test.YtgmppfpllogdcaaGreatBi1
import Derived.LoopIn
import Derived.LoopNIn
import Derived.OwnWalkIn
import Derived.RangeFuncBound
import Derived.RangeFuncBox
import Derived.RangeFuncCalls
import Derived.RangeFuncLeaves
import Derived.RangeFuncNested
import Derived.Shelf.Abstract
import Derived.Shelf.RegionOpen
import Derived.TacticsInMore
import Derived.Test.YtgmppfpllogdcaaGreatBi24
import Derived.Test.YtgmppfpllogdcaaGreatBi36
import Derived.Test.YtgmppfpllogdcaaGreatBi39
import Derived.Test.YtgmppfpllogdcaaGreatBi41
import Derived.WalkKit
set_option maxRecDepth 100000
set_option maxHeartbeats 6400000
namespace Go.Proofs.YtgmppfpllogdcaaGreat
namespace Ins
open So Dp
structure Sp where
 d:Dk->Dk×Int
 u:Option (Dk->Dk×Int)
def zs:Sp:=⟨fun D=>(D,0),none⟩
def zaT:Dk->List Sp->Dk×Int
 | D,[]=>(D,9)
 | D,s::l=>match s.u with
  | none=>zaT D l
  | some u=>if (u D).2≠0 then u D else zaT (u D).1 l
def zcG:List Sp->Dk->List Sp->Dk×Int
 | _,D,[]=>(D,0)
 | t,D,s::l=>if (s.d D).2=0 then zcG (s::t) (s.d D).1 l else if (s.d D).2=9 then zaT (s.d D).1 t else s.d D
theorem zc8 {D:Dk} {s:Sp} {l:List Sp} (h:s.u=none):zaT D (s::l)=zaT D l:=by
 show (match s.u with | none=>zaT D l | some u=>_)=_
 rw [h]
theorem zct {D:Dk} {s:Sp} {l:List Sp} {u:Dk->Dk×Int} {R:Dk×Int} (h:s.u=some u) (hR:u D=R):zaT D (s::l)=if R.2≠0 then R else zaT R.1 l:=by
 subst hR
 show (match s.u with | none=>zaT D l | some u=>if (u D).2≠0 then u D else zaT (u D).1 l)=_
 rw [h]
theorem zcu {D:Dk} {s:Sp} {R:Dk×Int} (t l:List Sp) (h:s.d D=R):zcG t D (s::l)=if R.2=0 then zcG (s::t) R.1 l else if R.2=9 then zaT R.1 t else R:=by subst h;rfl
theorem zj8 (t:List Sp) (D:Dk):zcG t D []=(D,0):=by cases t<;>rfl
noncomputable def zdP (n m s:ByteArray) (M:Qm.Mn):List Sp:=
 [⟨fun D=>create D n,some fun D=>delete D n⟩,⟨fun D=>Dp.append D n s,none⟩,⟨fun D=>sync D n,none⟩,⟨fun D=>create D m,some fun D=>delete D m⟩,⟨fun D=>swap D M,none⟩]
def zdH (l:List ByteArray):List Sp:=l.map fun n=>⟨fun D=>delete D n,none⟩
theorem place_is (S:St) (at_:Int) (L:List UInt8):zcG [] S.d (zdP (Lg.snapN at_) (segN at_) ⟨L.toArray⟩ (man (Lg.instX S at_ L)))=Lg.inst4 S at_ L:=by
 have e1:Lg.inst1 S at_ L=if (create S.d (Lg.snapN at_)).2≠0 then create S.d (Lg.snapN at_) else Lg.undo (Dp.append (create S.d (Lg.snapN at_)).1 (Lg.snapN at_) ⟨L.toArray⟩) (Lg.snapN at_):=rfl
 have e2:Lg.inst2 S at_ L=if (Lg.inst1 S at_ L).2≠0 then Lg.inst1 S at_ L else sync (Lg.inst1 S at_ L).1 (Lg.snapN at_):=rfl
 have e3:Lg.inst3 S at_ L=if (Lg.inst2 S at_ L).2≠0 then Lg.inst2 S at_ L else create (Lg.inst2 S at_ L).1 (segN at_):=rfl
 have e4:Lg.inst4 S at_ L=if (Lg.inst3 S at_ L).2≠0 then Lg.inst3 S at_ L else Lg.undo2 (swap (Lg.inst3 S at_ L).1 (man (Lg.instX S at_ L))) (segN at_) (Lg.snapN at_):=rfl
 rw [e4];generalize man (Lg.instX S at_ L)=M at*;generalize (⟨L.toArray⟩:ByteArray)=s at*;generalize Lg.snapN at_=n at*;generalize segN at_=m at*;generalize Lg.inst3 S at_ L=T3 at*;generalize Lg.inst2 S at_ L=T2 at*;generalize Lg.inst1 S at_ L=T1 at*;unfold zdP;have h9:=zde S.d n;obtain ⟨⟨D1,E1⟩,hC⟩:∃R,create S.d n=R:=⟨_,rfl⟩;rw [hC] at h9 e1;rw [zcu _ _ (R:=(D1,E1)) hC];dsimp only at h9 e1 ⊢
 by_cases h1:E1=0
 case neg=>
  have hz:((D1,E1):Dk×Int).2≠0:=h1;rw [if_pos h1] at e1;rw [e1,if_pos hz] at e2;rw [e2,if_pos hz] at e3;rw [e3,if_pos hz,if_neg h1,if_neg h9]
 subst h1;rw [if_neg z0] at e1;obtain ⟨⟨D2,E2⟩,hA⟩:∃R,Dp.append D1 n s=R:=⟨_,rfl⟩;rw [hA] at e1;rw [if_pos rfl,zcu _ _ (R:=(D2,E2)) hA]
 have eu:Lg.undo (D2,E2) n=if E2=9 then ((delete D2 n).1,if (delete D2 n).2=0 then 9 else (delete D2 n).2) else (D2,E2):=rfl
 rw [eu] at e1;dsimp only at e1 ⊢
 by_cases h2:E2=9
 · subst h2
   rw [if_pos rfl] at e1
   have hz:T1.2≠0:=by
    rw [e1];show (if (delete D2 n).2=0 then (9:Int) else (delete D2 n).2)≠0
    split
    · decide
    · assumption
   rw [if_pos hz] at e2;rw [<-e2] at hz;rw [if_pos hz] at e3;rw [<-e3] at hz;rw [if_pos hz,e3,e2,e1,if_neg (by decide),if_pos rfl];obtain ⟨R,hR⟩:∃R,delete D2 n=R:=⟨_,rfl⟩;rw [zct (u:=fun D=>delete D n) (R:=R) rfl hR,hR]
   by_cases h3:R.2=0
   · rw [if_pos h3,if_neg (fun h=>h h3)];rfl
   · rw [if_neg h3,if_pos h3]
 rw [if_neg h2] at e1
 by_cases h3:E2=0
 case neg=>
  have hz:((D2,E2):Dk×Int).2≠0:=h3;rw [e1,if_pos hz] at e2;rw [e2,if_pos hz] at e3;rw [e3,if_pos hz,if_neg h3,if_neg h2]
 subst h3;rw [e1,if_neg z0] at e2;have s9:=zkd D2 n;obtain ⟨⟨D3,E3⟩,hS⟩:∃R,sync D2 n=R:=⟨_,rfl⟩;rw [hS] at s9;rw [hS] at e2;rw [if_pos rfl,zcu _ _ (R:=(D3,E3)) hS];dsimp only at s9 ⊢
 by_cases h4:E3=0
 case neg=>
  have hz:((D3,E3):Dk×Int).2≠0:=h4;rw [e2,if_pos hz] at e3;rw [e3,if_pos hz,if_neg h4,if_neg s9]
 subst h4;rw [e2,if_neg z0] at e3;have c9:=zde D3 m;obtain ⟨⟨D4,E4⟩,hC4⟩:∃R,create D3 m=R:=⟨_,rfl⟩;rw [hC4] at c9;rw [hC4] at e3;rw [if_pos rfl,zcu _ _ (R:=(D4,E4)) hC4];dsimp only at c9 ⊢
 by_cases h5:E4=0
 case neg=>
  have hz:((D4,E4):Dk×Int).2≠0:=h5;rw [e3,if_pos hz,if_neg h5,if_neg c9]
 subst h5;rw [e3,if_neg z0];obtain ⟨⟨D5,E5⟩,hW⟩:∃R,swap D4 M=R:=⟨_,rfl⟩;rw [if_pos rfl,zcu _ _ (R:=(D5,E5)) hW,hW]
 have eu:Lg.undo2 (D5,E5) m n=if E5=9 then (if (delete D5 m).2≠0 then delete D5 m else ((delete (delete D5 m).1 n).1,if (delete (delete D5 m).1 n).2=0 then 9 else (delete (delete D5 m).1 n).2)) else (D5,E5):=rfl
 rw [eu];dsimp only
 by_cases h6:E5=0
 · subst h6
   rw [if_pos rfl,if_neg (by decide)];rfl
 rw [if_neg h6]
 by_cases h7:E5=9
 case neg=>rw [if_neg h7,if_neg h7]
 obtain ⟨R,hR⟩:∃R,delete D5 m=R:=⟨_,rfl⟩;rw [if_pos h7,if_pos h7,zct (u:=fun D=>delete D m) (R:=R) rfl hR,hR]
 by_cases h8:R.2≠0
 · rw [if_pos h8,if_pos h8]
 obtain ⟨Q,hQ⟩:∃Q,delete R.1 n=Q:=⟨_,rfl⟩;rw [if_neg h8,if_neg h8,zc8 rfl,zc8 rfl,zct (u:=fun D=>delete D n) (R:=Q) rfl hQ,hQ]
 by_cases h9':Q.2=0
 · rw [if_pos h9',if_neg (fun h=>h h9')];rfl
 · rw [if_neg h9',if_pos h9']
theorem zlr:∀(l:List ByteArray) (t:List Sp) (D:Dk),(∀s∈t,s.u=none)->zcG t D (zdH l)=Trm.freedP D l
 | [],_,_,_=>rfl
 | n::l,t,D,ht=>by
  show zcG t D (⟨fun D=>delete D n,none⟩::zdH l)=(n::l).foldl (fun X n=>tk X (delete X.1 n)) (D,0);have h9:=zeB D n;obtain ⟨⟨D1,E1⟩,hC⟩:∃R,delete D n=R:=⟨_,rfl⟩;rw [hC] at h9;rw [zcu _ _ (R:=(D1,E1)) hC,List.foldl_cons,zfm];show _=l.foldl (fun X n=>tk X (delete X.1 n)) (delete D n);rw [hC];dsimp only at h9 ⊢
  by_cases h1:E1=0
  · subst h1
    rw [if_pos rfl]
    exact zlr l _ D1 fun s hs=>by
     rcases List.mem_cons.1 hs with rfl | hs
     · rfl
     · exact ht s hs
  · have hz:((D1,E1):Dk×Int).2≠0:=h1
    rw [if_neg h1,if_neg h9,Trm.freed_no _ hz]
theorem free_is (S:St) (D:Dk):zcG [] D (zdH (Trm.goneL S S.g.length))=Lg.inst5 S D:=by
 rw [zlr _ _ _ (fun _ h=>by cases h), <-Trm.trim4_p]
 have e:Lg.trim4 S S.g.length D=if (Lg.delSegs D (S.g.take S.g.length)).2=0/\0<floor S then delete (Lg.delSegs D (S.g.take S.g.length)).1 (Lg.snapN (floor S)) else Lg.delSegs D (S.g.take S.g.length):=rfl
 rw [e,List.take_length]
 rfl
end Ins
namespace Ins
open Go.RowKit So Dsk Rts Sto
abbrev El:=(Nat×Array Value)×Option (Nat×Array Value)
def opV:Option (Nat×Array Value)->Value
 | none=> .nilFunc
 | some x=>fnV x
theorem zkW:∀x,(opV x).oneCell'=true
 | none=>rfl
 | some _=>rfl
def TL:Lay El where
 enc:=fun s=>[fnV s.1,opV s.2]
 k:=2
 len:=fun _=>rfl
 one:=by intro f u hu;simp at hu;rcases hu with rfl | rfl<;>first | exact zkW _ | rfl
 pos:=by decide
 T:=109
 ok:=fun _=>True
 z:=((0,#[]),none)
theorem info_tl:(Tryz.prog.info? 109).map (fun i=>(i.zero,i.size,i.bytes))=some (some (.agg #[.nilFunc,.nilFunc]),2,16):=by kernel_rfl
theorem tl_at {w:World} {a:Option Addr} {n cap:Nat} {l:List El} (h:IsL TL w (.slice a n cap) l) {i:Nat} (hi:i<n):∃b off,a=some ⟨b,off,none⟩/\w.cell? ⟨b,off+i*2,none⟩=some (fnV (l.getD i TL.z).1)/\w.cell? ⟨b,off+i*2+1,none⟩=some (opV (l.getD i TL.z).2):=by
 have h':=h;obtain ⟨a',cap',e,_,_,h3⟩:=h
 injection e with e1 e2 e3
 rcases h3 with h3 | ⟨b,off,h4,_⟩
 · rw [h3] at e2;simp at e2;omega
 · subst e1
   subst h4
   exact ⟨b,off,rfl,h'.at_ hi 0 _ rfl,h'.at_ hi 1 _ rfl⟩
def Undo (w:World):Option (Nat×Array Value)->Option (Dp.Dk->Dp.Dk×Int)->Prop
 | none,none=>True
 | some x,some u=>Chg w x u
 | _,_=>False
theorem Undo.keep {w W:World}:∀{x:Option (Nat×Array Value)} {u:Option (Dp.Dk->Dp.Dk×Int)},Undo w x u->Below w.heap.size w W->Undo W x u
 | none,none,_,_=>trivial
 | some _,some _,h,b=>Chg.keep h b
 | none,some _,h,_=>h.elim
 | some _,none,h,_=>h.elim
theorem Undo.cases {w:World}:∀{x:Option (Nat×Array Value)} {u:Option (Dp.Dk->Dp.Dk×Int)},Undo w x u->(x=none/\u=none)\/ ∃y v,x=some y/\u=some v/\Chg w y v
 | none,none,_=> .inl ⟨rfl,rfl⟩
 | some y,some v,h=> .inr ⟨y,v,rfl,rfl,h⟩
 | none,some _,h=>h.elim
 | some _,none,h=>h.elim
structure Sps (w:World) (fs:List El) (ss:List Sp):Prop where
 len:fs.length=ss.length
 at_:∀i,i<ss.length->Chg w (fs.getD i TL.z).1 (ss.getD i zs).d/\Undo w (fs.getD i TL.z).2 (ss.getD i zs).u
theorem Sps.keep {w W:World} {fs:List El} {ss:List Sp} (h:Sps w fs ss) (b:Below w.heap.size w W):Sps W fs ss:=⟨h.len,fun i hi=>⟨(h.at_ i hi).1.keep b,(h.at_ i hi).2.keep b⟩⟩
theorem zgR {α:Type} {l:List α} {n i:Nat} {z:α} (h:i<n):(l.take n).getD i z=l.getD i z:=by
 simp [List.getD_eq_getElem?_getD,h]
theorem Sps.take {w:World} {fs:List El} {ss:List Sp} (h:Sps w fs ss) (n:Nat):Sps w (fs.take n) (ss.take n):=by
 refine ⟨by rw [List.length_take,List.length_take,h.len],fun i hi=>?_⟩;rw [List.length_take] at hi;rw [zgR (by omega),zgR (by omega)];exact h.at_ i (by omega)
def Few (ss:List Sp):Prop:=∀s∈ss,(∀D k,Bd D k->Bd (s.d D).1 (k+10))/\∀u,s.u=some u->∀D k,Bd D k->Bd (u D).1 (k+10)
theorem Few.take {ss:List Sp} (h:Few ss) (n:Nat):Few (ss.take n):=fun s hs=>h s (List.mem_of_mem_take hs)
theorem zkP {n m s:ByteArray} {M:Qm.Mn} (hs:s.size<=3000):Few (zdP n m s M):=by
 intro x hx;simp only [zdP,List.mem_cons,List.not_mem_nil,or_false] at hx
 rcases hx with rfl | rfl | rfl | rfl | rfl
 · exact ⟨fun D k h=>(zas h n).mono (by omega),fun u hu=>by cases hu;exact fun D k h=>(zam h n).mono (by omega)⟩
 · exact ⟨fun D k h=>(zbb h n hs).mono (by omega),fun u hu=>by cases hu⟩
 · exact ⟨fun D k h=>(zbs h n).mono (by omega),fun u hu=>by cases hu⟩
 · exact ⟨fun D k h=>(zas h m).mono (by omega),fun u hu=>by cases hu;exact fun D k h=>(zam h m).mono (by omega)⟩
 · exact ⟨fun D k h=>(zb9 h M).mono (by omega),fun u hu=>by cases hu⟩
theorem free_few (l:List ByteArray):Few (zdH l):=by
 intro x hx;unfold zdH at hx;rw [List.mem_map] at hx;obtain ⟨n,_,rfl⟩:=hx;exact ⟨fun D k h=>(zam h n).mono (by omega),fun u hu=>by cases hu⟩
end Ins
namespace Ins
open Go.RowKit Go.Shelf So Dsk Rts Sto
attribute [local go_sem] Oper.semAt_some
def dnAt (n m:Nat):List Nat:=(List.range m).map fun j=>n-1-j
theorem zlv (n m:Nat):dnAt n (m+1)=dnAt n m++[n-1-m]:=by unfold dnAt;rw [List.range_succ,List.map_append];rfl
theorem zd7 (n m:Nat):(dnAt n m).length=m:=by unfold dnAt;simp
theorem ziP {l:List Sp} {m:Nat} (h:m<=l.length):(dnAt l.length m).map (fun i=>l.getD i zs)=l.reverse.take m:=by
 refine List.ext_getElem (by rw [List.length_map,zd7,List.length_take,List.length_reverse];omega) fun i h1 h2=>?_;rw [List.length_map,zd7] at h1;rw [List.getElem_map,List.getElem_take,List.getElem_reverse];unfold dnAt;rw [List.getElem_map,List.getElem_range,zao (by omega)]
abbrev It (fs:List El):={i:Nat // i<fs.length}
def ziR {fs:List El} (x:It fs):Array Value:= #[.int .i64 (x.1:Int),.agg #[fnV (fs.getD x.1 TL.z).1,opV (fs.getD x.1 TL.z).2]]
def KpW (C:Nat) (w0 A B:World):Prop:=(∀o:Obj,A.heap[C]?=some o->B.heap[C]?=some o)/\(Below w0.heap.size w0 A->Below w0.heap.size w0 B)
theorem kpW_b {C:Nat} {w0 A B:World} (h:Below A.heap.size A B):KpW C w0 A B:=⟨fun _ ho=>hkeep ho h,fun b=>b.trans (h.mono b.size)⟩
theorem kpW_set5 {C t:Nat} {w0 A:World} (hC:C≠t) (ht:w0.heap.size<=t) (x y z u v:Value):KpW C w0 A (set5 A t x y z u v):=
 ⟨fun o ho=>by
  unfold set5;rw [Below.heap_setCell _ _ _ C (fun e=>hC e),Below.heap_setCell _ _ _ C (fun e=>hC e),Below.heap_setCell _ _ _ C (fun e=>hC e),Below.heap_setCell _ _ _ C (fun e=>hC e),Below.heap_setCell _ _ _ C (fun e=>hC e)]
  exact ho,fun b=>zai b ht x y z u v⟩
theorem keepsI {B:Nat} {X Y:World} (h:Below X.heap.size X Y):KeepsFrom B X Y:=⟨h.size,fun _ _ _ hk _=>hkeep hk h⟩
theorem zdF {X:World} {t:Nat} (x y z u v:Value):KeepsOthers X (set5 X t x y z u v):=((((KeepsOthers.setCell _ _ _).trans (KeepsOthers.setCell _ _ _)).trans (KeepsOthers.setCell _ _ _)).trans (KeepsOthers.setCell _ _ _)).trans (KeepsOthers.setCell _ _ _)
theorem eq_nil (w:World):(binOp .eql 107 .nilFunc .nilFunc).run Tryz.prog w= .ok (.bool true) w:=by rfl
theorem eq_func (f:Fn) (x y:Array Value) (w:World):(binOp .eql 107 (.func f x y) .nilFunc).run Tryz.prog w= .ok (.bool false) w:=by rfl
theorem kpW_t {C:Nat} {w0 X Y Z:World} (h:KpW C w0 X Y) (k:KpW C w0 Y Z):KpW C w0 X Z:=⟨fun o ho=>k.1 o (h.1 o ho),fun b=>k.2 (h.2 b)⟩
theorem back_in (a:Option Addr) (ln cap C l n:Nat) (fs:List El) (w0:World) (TC:TypeId) (hn:1<=n) (hl:IsL TL w0 (.slice a ln cap) fs)
 (J Jx:List (It fs)->World->Prop) (W:World) (hJ:AbidesFrom W.heap.size J)
 (hY:∀pre x W1,J pre W1->pre.length<ln+1->YieldAt Fence.wide (n-1) Tryz.prog l (ziR x) W1 fun e W'=>
  (e= .returned (.bool true)/\J (pre++[x]) W'/\KpW C w0 W1 W')\/(e= .returned (.bool false)/\Jx (pre++[x]) W'))
 (gC:W.heap[C]?=some (.cells #[.slice a ln cap] TC (0,0))) (gB:Below w0.heap.size w0 W) (h0:J [] W):
 CallsIn Fence.wide n Tryz.prog 113 #[.func (.yield l) #[] #[],.pointer (some ⟨C,0,none⟩)] W fun e W'=>(∃v,e= .returned v)/\
  ((∃ys:List (It fs),ys.map (·.1)=dnAt ln ln/\J ys W')\/(∃pre:List (It fs),(∃m,m<=ln/\pre.map (·.1)=dnAt ln m)/\Jx pre W')):=by
 have HJ:=zid hJ;have HY:=zid hY;have HL:=zid hl;have hln:=hl.len.1;have hlm:=hl.len.2;unfold maxLen at hlm;have HLN:=zid hln;have cC:=Boxed.cell gC;have hw1:IntKind.i64.wrap ((ln:Int)-1)=(ln:Int)-1:=IntWalk.i64_in _ ⟨by omega,by omega⟩;clear hJ hY hl hln hlm;refine callsIn_of_wp Tryz.func113 rfl trivial ?_ rfl;simp only [Tryz.ntmps113,List.size_toArray,List.length_cons,List.length_nil,Nat.reduceAdd,Nat.reduceSub,Array.replicate_succ,Array.replicate_zero,List.push_toArray,List.append_toArray,List.nil_append,List.cons_append]
 gi_wp2
 gi_loopw [3] (fun p wr=>∃(m:Nat) (pre:List (It fs)),m<=ln/\p= .int .i64 (((ln-m:Nat):Int)-1)/\pre.map (·.1)=dnAt ln m/\J pre wr/\wr.heap[C]?=some (.cells #[.slice a ln cap] TC (0,0))/\Below w0.heap.size w0 wr)
  (fun p _=>(intOf p+1).toNat)
 case atStart=>exact ⟨0,[],Nat.zero_le _,by simp,rfl,h0,gC,gB⟩
 case round=>
  obtain ⟨m,pre,hm,rfl,hpre,hJs,hB,hBel⟩:=hrel;have HPRE:=zid hpre;clear hpre;have hln:=HLN.out;have hlm:=HL.out.len.2;unfold maxLen at hlm;have HB:=zid hB;have HBEL:=zid hBel;have cC1:=Boxed.cell hB;have HJS:=zid hJs;clear hJs hB hBel
  by_cases hlt:m<ln
  · obtain ⟨k,hk⟩:∃k,ln-m=k+1:=⟨ln-m-1,by omega⟩
    have hkl:k<ln:=by omega
    obtain ⟨b,off,rfl,c0,c1⟩:=tl_at (HL.out.keep HBEL.out) hkl
    have hkf:k<fs.length:=by omega
    obtain ⟨x,hx⟩:∃x:It fs,x=⟨k,hkf⟩:=⟨_,rfl⟩
    have hx1:x.1=k:=by rw [hx]
    have HS:=zid (show (pre++[x]).map (·.1)=dnAt ln (m+1) by
     have h1:=zlv ln m;rw [show ln-1-m=k by omega] at h1;rw [h1,List.map_append,HPRE.out];show _++[x.1]=_
     rw [hx1])
    have HPL:=zid (show pre.length=m by have:=congrArg List.length HPRE.out;rwa [List.length_map,zd7] at this);rw [show (((ln-m:Nat):Int)-1)=(k:Int) by omega];have hwk:IntKind.i64.wrap ((k:Int)-1)=(k:Int)-1:=IntWalk.i64_in _ ⟨by omega,by omega⟩;obtain ⟨fn,tmps,assign,body,hy,hR⟩:=HY.out pre x _ HJS.out (by rw [HPL.out];omega);have HR:=zid hR;unfold ziR at hy;rw [hx1] at hy;clear hR hln hlm hx hx1 hkf;generalize fs.getD k TL.z=y at*;obtain ⟨x1,x2⟩:=y;dsimp only at hy c0 c1;generalize fnV x1=f1 at*;generalize opV x2=f2 at*
    gi_wp2
    refine HR.out.mono ?_;rintro e W3 (⟨rfl,hJ3,hk3⟩ | ⟨rfl,hJx3⟩)
    · have HJ3:=zid hJ3
      have B3:=zid (hk3.1 _ HB.out)
      have B4:=zid (hk3.2 HBEL.out);clear hJ3 hk3
      gi_wp2
      go_roundw
      case rel=>exact ⟨m+1,pre++[x],by omega,congrArg (Value.int .i64) (by omega),HS.out,HJ3.out,B3.out,B4.out⟩
      case measure=>simp [intOf]
    · have HJX:=zid hJx3
      clear hJx3
      gi_wp2
      refine bodyPost_ret (results_none rfl _ _ _) rfl ?_;exact ⟨⟨_,rfl⟩,.inr ⟨_,⟨m+1,by omega,HS.out⟩,HJX.out⟩⟩
  · obtain rfl:m=ln:=by omega
    rw [show (((m-m:Nat):Int)-1)= -1 by omega]
    clear hln hlm
    gi_wp2
    go_end0
    exact ⟨⟨_,rfl⟩,.inl ⟨_,HPRE.out,HJS.out⟩⟩
theorem zjW (a:Option Addr) (ln cap C n:Nat) (fs:List El) (w0:World) (TC:TypeId) (hn:1<=n) (hl:IsL TL w0 (.slice a ln cap) fs) (w:World) (gC:w.heap[C]?=some (.cells #[.slice a ln cap] TC (0,0))) (gB:Below w0.heap.size w0 w):
 SeqStopsK Fence.wide n Tryz.prog 113 #[.pointer (some ⟨C,0,none⟩)] (ziR (fs:=fs)) (KpW C w0)
  (fun ys:List (It fs)=>ys.map (·.1)=dnAt ln ln) (fun pre:List (It fs)=>∃m,m<=ln/\pre.map (·.1)=dnAt ln m) (ln+1) w:=fun l J Jx W hW hJ _ hY h0=>
 back_in a ln cap C l n fs w0 TC hn hl J Jx W hJ hY (hkeep gC hW) (gB.trans (hW.mono gB.size)) h0
theorem zg5 (a:Option Addr) (ln cap:Nat) (w:World):
 Calls Tryz.prog 94 #[.slice a ln cap] w fun e w'=>
  e= .returned (.func (.func 113) #[] #[.pointer (some ⟨w.heap.size,0,none⟩)])/\w'=w.alloc (.cells #[.slice a ln cap] 69):=by
 have hmf:=Dsk.made_func
 go_enter Tryz.func94,Tryz.ntmps94
 go_wp2_with fail;go_ret;exact ⟨rfl,rfl⟩
end Ins
end Go.Proofs.YtgmppfpllogdcaaGreat

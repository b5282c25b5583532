/-
  Parts of what the laws of this seat stand on:SegProg,RoSeg,StoSml.
-/
import Derived.Test.YtooipogbmfkeeaaGreatQr1
import Derived.Deep.RegionHeld
import Derived.Deep.RegionHeld3
import Derived.Maps.AppendAt
import Derived.OrdersIn
import Derived.OwnWalkIn
import Derived.RangeFuncBound
import Derived.RangeFuncBox
import Derived.RangeFuncCalls
import Derived.RangeFuncNested
import Derived.Test.YtooipogbmfkeeaaGreatQr12
import Derived.Test.YtooipogbmfkeeaaGreatQr13
import Derived.Test.YtooipogbmfkeeaaGreatQr14
import Derived.Test.YtooipogbmfkeeaaGreatQr21
import Derived.Test.YtooipogbmfkeeaaGreatQr34
set_option maxRecDepth 100000
set_option maxHeartbeats 6400000
namespace Go.Proofs.YtooipogbmfkeeaaGreat
section
open Go.RowKit Go.Shelf Gp
attribute [local go_sem] Oper.semAt_some
theorem row_kept {X Y:World} {row:Option Nat} {k:Nat} {cs:Array Value} {T:TypeId} {fz:Nat×Nat} (h:X.heap[k]?=some (.cells cs T fz)) (hg:X.grownBy Y row) (hr:∀r,row=some r->∃o:Obj,X.heap[r]?=some o/\o.isCells=false):
 Y.heap[k]?=some (.cells cs T fz):=
 (hg.block k (Array.getElem?_eq_some_iff.1 h).1 (fun e=>by obtain ⟨o,ho,hc⟩:=hr k e.symm;rw [h] at ho;cases ho;cases hc)).trans h
theorem zkC (s:ByteArray) (base:Int) (w:World) (h:base<0\/1099511627776<base):
 Calls Tryz.prog 94 #[.string s,.int .i64 base] w (zdw w (Gp.full s.data.toList base)):=by
 have M:=zid fun W:World=>zff base W
 have HF:=zid (show zdw w (Gp.full s.data.toList base) (.returned (.tuple #[.slice none 0 0,.int .i64 0,.int .i64 1])) w from by
  rw [Gp.full_out (Rp.inB_no h)]
  exact ⟨_,rfl,zbw.nil w none 0,Below.refl _ w⟩)
 rw [Rp.inB_no h] at M
 go_enter Tryz.func94,Tryz.ntmps94
 go_wp2_with (go_at_call 129;refine (M.out _).mono ?_;rintro e w' ⟨rfl,rfl⟩)
 go_ret3;exact HF.out
theorem scan_end {w wr:World} {l:List UInt8} {b:Int} {ps:List (Rp.Rec×Nat)} {k:Nat} {v:Value} {B:Nat} (hk:k<=4398046511104) (hg:Gp.Good l b 0 ps k)
 (h1:wr.ownsRow B 49 3 v ps.length (zaN (ps.map Prod.fst))) {F:List (Rp.Rec×Nat)×Nat×Int} {er:Int} (hF:F=(ps,k,er)) (hb:Below w.heap.size w wr):
 zdw w F (.returned (.tuple #[v,.int .i64 (k:Int),.int .i64 er])) wr:=by
 have hf:=hg.few;subst hF;refine ⟨v,rfl,zbw.own h1 (by unfold maxLen;omega) fun r hr=>?_,hb⟩;rw [List.mem_map] at hr;obtain ⟨p,hp,rfl⟩:=hr;exact hg.ok p hp
theorem scan9_in (s:ByteArray) (base:Int) (w:World) (hs:s.size<=1000000000) (hb0:0<=base) (hb1:base<=1099511627776):
 Calls Tryz.prog 94 #[.string s,.int .i64 base] w (zdw w (Gp.full s.data.toList base)):=by
 have M:=zid fun W:World=>zff base W;rw [Rp.inB_mk hb0 hb1] at M;have R:=fun W:World=>zgQ s 0 base W;rw [show ((0:Nat):Int)=0 from rfl] at R;replace R:=zid R;have HFU:=zid (Gp.full_in (l:=s.data.toList) (Rp.inB_mk hb0 hb1));have HL:=zid (show s.data.toList.length=s.size from rfl);obtain ⟨i0,hi,hz0,hz1,hz2⟩:=info_parts zi7;refine (callsIn_wide (n:=6)).1 ?_;refine callsIn_of_wp_marks Tryz.func94 rfl trivial ?_ rfl;simp only [Tryz.ntmps94,List.size_toArray,List.length_cons,List.length_nil,Nat.reduceAdd,Nat.reduceSub,Array.replicate_succ,Array.replicate_zero,List.push_toArray,List.append_toArray,List.nil_append,List.cons_append]
 gi_wp2_with (first | (refine ⟨trivial,?_⟩;gi_at_call 129;refine (callsIn_wide.2 (M.out _)).mono ?_;rintro e w' ⟨rfl,rfl⟩) | (refine ⟨trivial,?_⟩;gi_at_call 130;refine (callsIn_wide.2 (R.out _)).mono ?_;rintro e w' ⟨rfl,rfl⟩))
 have bL:=((((Boxed.new w 80 (.slice none 0 0)).alloc (.cells #[.int .i64 0] 3)).alloc (.cells #[.string s] 9)).alloc (.cells #[.int .i64 0] 3)).alloc (.cells #[.int .i64 base] 3);have bE:=(((Boxed.new (w.alloc (.cells #[.slice none 0 0] 80)) 3 (.int .i64 0)).alloc (.cells #[.string s] 9)).alloc (.cells #[.int .i64 0] 3)).alloc (.cells #[.int .i64 base] 3);have bC:=((Boxed.new ((w.alloc (.cells #[.slice none 0 0] 80)).alloc (.cells #[.int .i64 0] 3)) 9 (.string s)).alloc (.cells #[.int .i64 0] 3)).alloc (.cells #[.int .i64 base] 3);have bA:=(Boxed.new (((w.alloc (.cells #[.slice none 0 0] 80)).alloc (.cells #[.int .i64 0] 3)).alloc (.cells #[.string s] 9)) 3 (.int .i64 0)).alloc (.cells #[.int .i64 base] 3);have bO:=Boxed.new ((((w.alloc (.cells #[.slice none 0 0] 80)).alloc (.cells #[.int .i64 0] 3)).alloc (.cells #[.string s] 9)).alloc (.cells #[.int .i64 0] 3)) 3 (.int .i64 base);simp only [World.size_alloc] at bL bE bC bA bO
 have hB0:Below w.heap.size w (((((w.alloc (.cells #[.slice none 0 0] 80)).alloc (.cells #[.int .i64 0] 3)).alloc (.cells #[.string s] 9)).alloc (.cells #[.int .i64 0] 3)).alloc (.cells #[.int .i64 base] 3)):=
  (((((Below.refl _ w).alloc (Nat.le_refl _) _).alloc (by simp) _).alloc (by simp;omega) _).alloc (by simp;omega) _).alloc (by simp;omega) _
 have hsz:(((((w.alloc (.cells #[.slice none 0 0] 80)).alloc (.cells #[.int .i64 0] 3)).alloc (.cells #[.string s] 9)).alloc (.cells #[.int .i64 0] 3)).alloc (.cells #[.int .i64 base] 3)).heap.size=w.heap.size+5:=by simp
 obtain ⟨W0,hW0⟩:∃W0,((((w.alloc (.cells #[.slice none 0 0] 80)).alloc (.cells #[.int .i64 0] 3)).alloc (.cells #[.string s] 9)).alloc (.cells #[.int .i64 0] 3)).alloc (.cells #[.int .i64 base] 3)=W0:=⟨_,rfl⟩;rw [hW0] at bL bE bC bA bO hB0 hsz ⊢;clear hW0
 refine wpIn_rangeFunc_ownH (F:=Fence.wide) rfl (by decide) (gf:=150) (lb:= #[.pointer (some ⟨w.heap.size+1+1+1,0,none⟩),.pointer (some ⟨w.heap.size+1+1+2,0,none⟩),.pointer (some ⟨w.heap.size+1+1,0,none⟩)]) rfl trivial (enters_of Tryz.func150 (by kernel_rfl) rfl)
  (zid_ s base 0 (w.heap.size+1+1+1) (w.heap.size+1+1+2) (w.heap.size+1+1) 5 9 (by decide) (by omega) hb0 hb1 (Nat.zero_le _) W0 (by omega) (by omega) (by omega) bA.cell bO.cell bC)
  (fun h k=>kpC_t h k) (kpC_b (by omega)) (Below.refl _ _) (fun _=>rfl)
  (fun (pre:List (It base)) W=>((∃v,Boxed W w.heap.size 80 v/\W.ownsRow w.heap.size 49 3 v pre.length (zaN (pre.map fun x=>x.1.1))/\True)/\(Boxed W (w.heap.size+1) 3 (.int .i64 (zew 0 pre:Nat))/\Boxed W (w.heap.size+1+1) 9 (.string s)))/\Below w.heap.size w W)
  (fun _ _ _=>False)
  (OwnFrom.and (OwnFrom.and (Own.from (holdsRow_own w.heap.size w.heap.size 80 49 3 (fun (pre:List (It base))=>pre.length) (fun pre=>zaN (pre.map fun x=>x.1.1)) (fun _ _=>True)) _) (OwnFrom.and (Own.from (boxed_own _ _ (fun (pre:List (It base))=> .int .i64 (zew 0 pre:Nat))) _) (Own.from (boxed_own _ _ _) _))) (ownFrom_below (Nat.le_refl _) (by omega)))
  (fun _ _ _ _ _ hs _ _=>hs)
  ⟨⟨⟨_,bL,World.ownsRow_nil _ _ _ _,trivial⟩,bE,bC⟩,hB0⟩
  (fun x a' W=>∃Bx,w.heap.size+2<Bx/\W.heap[Bx]?=some (.cells #[.int .i64 x.1.1.a,.int .i64 x.1.1.t,.string x.1.1.d] 49 (0,0))/\a'={defers:=[],tmps:=
   #[Value.string s,Value.int IntKind.i64 base,undef,undef,Value.slice none 0 0,Value.int IntKind.i64 0,
    Value.int IntKind.i64 0,Value.pointer (some {block:=w.heap.size,off:=0}),
    Value.pointer (some {block:=w.heap.size+1,off:=0}),Value.pointer (some ⟨Bx,0,none⟩),Value.int IntKind.i64 (x.1.2:Int),undef,undef,undef,
    Value.int IntKind.i64 base,Value.bool true,Value.bool false,Value.string s,Value.int IntKind.i64 base,
    Value.func (Fn.func 150) #[]
     #[Value.pointer (some {block:=w.heap.size+1+1+1,off:=0}),
      Value.pointer (some {block:=w.heap.size+1+1+2,off:=0}),
      Value.pointer (some {block:=w.heap.size+1+1,off:=0})],
    .agg #[.int .i64 x.1.1.a,.int .i64 x.1.1.t,.string x.1.1.d],.int .i64 (x.1.2:Int),undef,undef,undef,undef,undef,undef,undef,undef,undef,undef,undef,undef,undef,undef,undef,undef,undef,undef,undef,undef,undef,undef,undef,undef,undef]})
  (fun x a' _ X Y row hs hg hr=>by obtain ⟨Bx,h1,h2,h3⟩:=hs;exact ⟨Bx,h1,row_kept h2 hg (fun r e=>(hr r e).2),h3⟩)
  ?assign ?body ?done ?stop
 case assign=>
  rintro l pre ⟨⟨⟨ra,rt,rd⟩,q⟩,hx⟩ W K ⟨⟨⟨v,bL1,hO,_⟩,bE1,bC1⟩,hB1⟩ hK;have hK:=zid (fun a' h=>hK a' _ ((KeepsOthers.alloc W (.cells #[.int .i64 ra,.int .i64 rt,.string rd] 49)).from _) (zlr ((Below.refl _ W).alloc (Nat.le_refl _) _)) ⟨⟨⟨v,bL1.alloc _,hO.alloc _,trivial⟩,bE1.alloc _,bC1.alloc _⟩,hB1.alloc hB1.size _⟩ ⟨W.heap.size,by have:=bC1.lt;omega,heap_alloc_new W _,h⟩);unfold zi6;dsimp only
  gi_wp2
  exact hK.out _ rfl
 case body=>
  rintro l pre ⟨⟨⟨ra,rt,rd⟩,q⟩,hx⟩ a' W hl hr ⟨⟨⟨v,bL1,hO,_⟩,bE1,bC1⟩,hB1⟩ ⟨Bx,hBx,gX,rfl⟩ hlt;obtain ⟨x,hxe⟩:∃x:It base,x=⟨⟨⟨ra,rt,rd⟩,q⟩,hx⟩:=⟨_,rfl⟩;have HLA:=zid (zib 0 pre x);have HRV:=zid (show zaN ((pre++[x]).map fun x=>x.1.1)=zaN (pre.map fun x=>x.1.1)++[.int .i64 ra,.int .i64 rt,.string rd] by rw [List.map_append,hxe];exact zdY _ ⟨ra,rt,rd⟩);have HPL:=zid (show (pre++[x]).length=pre.length+1 by simp);obtain ⟨ln,hln⟩:∃ln,pre.length=ln:=⟨_,rfl⟩;rw [<-hxe];rw [hln] at hO HPL hlt;generalize zaN (pre.map fun x=>x.1.1)=rv at*;generalize zew 0 pre=la at*;clear hxe hln;dsimp only;have cL:=bL1.cell;have cE:=bE1.cell;have fE:=bE1.frozen;obtain ⟨z0,z1,z2⟩:=cells3 gX;have hs1:=hB1.size;have GO:=zid fun (v':Value) (w1:World) (hown':w1.ownsRow w.heap.size 49 3 v' (ln+1) (rv++[.int .i64 ra,.int .i64 rt,.string rd])) (hgrow:(W.alloc (.cells #[.int .i64 ra,.int .i64 rt,.string rd] 49)).grownBy w1 v.ownBlock)=>bL1.appended (by decide) hO hs1 (Nat.le_refl _) hown' hgrow;have GE:=zid fun (w1:World) (hgrow:(W.alloc (.cells #[.int .i64 ra,.int .i64 rt,.string rd] 49)).grownBy w1 v.ownBlock)=>(bE1.alloc _).kept hgrow (bE1.not_row (by decide) hO);have GC:=zid fun (w1:World) (hgrow:(W.alloc (.cells #[.int .i64 ra,.int .i64 rt,.string rd] 49)).grownBy w1 v.ownBlock)=>(bC1.alloc _).kept hgrow (bC1.not_row (by decide) hO);have HBC:=zid bC1;have HBB:=zid hB1;have HO:=zid hO;clear bL1 bE1 bC1 hO hB1 gX
  gi_wp2_with (gi_at_builtin;refine wpListIn_append_own _ rfl _ _ 80 rfl w.heap.size 49 i0 (.agg #[.int .i64 0,.int .i64 0,.string ByteArray.empty]) 3 32 Tryz.underlying80 hi hz0 hz1 hz2 rfl (by decide) _ _ _ rfl (HO.out.alloc _) ⟨W.heap.size,0,none⟩ 1 1 [.int .i64 ra,.int .i64 rt,.string rd] (by simp [go_sem]) rfl (zas W _ [.int .i64 ra,.int .i64 rt,.string rd] 49 rfl) (by simp [Value.oneCell']) (by unfold maxLen;omega) (by omega) (by simp;omega) ?_;intro v' w1 hown' hgrow _;obtain ⟨g',cap',rfl⟩:=ownsRow_succ hown';obtain ⟨hv1,hv2,hr2,hk2,hb2⟩:=GO.out _ _ hown' hgrow;have hc1:=hv1.cell;have hf1:=hv1.frozen;have bE3:=GE.out _ hgrow;have bC3:=GC.out _ hgrow;have cE3:=bE3.cell;have fE3:=bE3.frozen;have HS:=zid (And.intro hv2 (And.intro hr2 (And.intro hk2 hb2)));have HE:=zid bE3;have HC:=zid bC3;clear hv1 hv2 hr2 hk2 hb2 bE3 bC3 hown' hgrow)
  obtain ⟨hv2,hr2,hk2,hb2⟩:=HS.out;have bE4:=HE.out.other (show w.heap.size+1≠w.heap.size by omega) (.slice (some ⟨g',0,none⟩) (ln+1) cap');have bC4:=(HC.out.other (show w.heap.size+1+1≠w.heap.size by omega) (.slice (some ⟨g',0,none⟩) (ln+1) cap')).other (show w.heap.size+1+1≠w.heap.size+1 by omega) (.int .i64 (x.1.2:Int))
  exact ⟨(hk2.trans (KeepsOthers.setCell _ _ _)).from _,(fun o ho=>by rw [show W.heap[_]?=_ from HBC.out] at ho;cases ho;exact bC4),
   ⟨⟨⟨_,hv2.other (by omega) _,by rw [HPL.out,HRV.out];exact hr2.kept (grownBy_setCell' _ _ _) (.inr (bE4.not_row (by decide) hr2).symm)⟩,by rw [HLA.out];exact bE4.set _,bC4⟩,(HBB.out.trans hb2).setCell (p:=⟨w.heap.size+1,0,none⟩) (by simp) _⟩⟩
 case done=>
  rintro D ys W hD ⟨ps,k,e,hF,hG,hZ,hne,hlt,hge⟩ ⟨⟨⟨v,bL1,hO,_⟩,bE1,_⟩,hB1⟩ hK;rw [hZ.last] at bE1;rw [hZ.len,hZ.recs] at hO;rw [HL.out] at hlt hge
  have hks:k<=s.size:=by
   rcases hG.le with h | h
   · rw [HL.out] at h;exact h
   · omega
  have hFF:=HFU.out.trans hF;have hfew:=hG.few;have cL:=bL1.cell;have cE:=bE1.cell;have HR:=zid fun (W':World) (h:W'.ownsRow w.heap.size 49 3 v ps.length (zaN (ps.map Prod.fst))) (hb:Below w.heap.size w W')=>scan_end (by omega) hG h hFF hb;have HO:=zid hO;have HB:=zid hB1;have hs1:=hB1.size
  by_cases hk:k=s.size
  · obtain rfl:=hge (by omega)
    have heq:((k:Int)==(s.size:Int))=true:=by simp;omega
    have HK:=zid hK;clear hO hB1 hF hG hZ hne hlt hge hFF bL1 bE1 hK;subst hk
    gi_wp2
    gi_region
    all_goals gi_wp2
    refine ⟨by simp,.inl ⟨_,_,rfl,run_takeDeferred (w:=W.drew) HK.out,?_⟩⟩;refine ⟨.tuple #[v,.int .i64 (s.size:Int),.int .i64 0],by simp [results,Tryz.results94,go_sem],?_⟩;exact HR.out _ (ownsRow_putObj (zaq HO.out (Below.refl _ W).drew) _ HK.out rfl) (HB.out.drew.trans (belowK_b (w:=w) (Nat.le_refl _) W.drew D _ _ (by omega) HK.out rfl rfl))
  · have heq:((k:Int)==(s.size:Int))=false:=by simp;omega
    have her:=hlt (by omega)
    have NX:=fun W1:World=>zgV s k (base+(ps.length:Int)) W1 (by omega);generalize Gp.fd s.data.toList (base+(ps.length:Int)) k=x at NX her;obtain ⟨⟨xa,xt,xd⟩,xk,xe⟩:=x;dsimp only at her;subst her;unfold zhf at NX;dsimp only at NX;obtain ⟨va,vc,rfl⟩:=own_slice hO;replace NX:=zid NX;have HK:=zid hK;have HBL:=zid bL1;have HBE:=zid bE1;clear hO hB1 hF hG hZ hne hlt hge hFF bL1 bE1 hK;obtain ⟨ln,hln⟩:∃ln,ps.length=ln:=⟨_,rfl⟩;rw [hln] at NX HR HO HBL cL hfew
    gi_wp2_with (refine ⟨trivial,?_⟩;gi_at_call 131;refine (callsIn_wide.2 (NX.out _)).mono ?_;rintro e1 w1 ⟨rfl,b1⟩;have B2:=zid (b1.alloc (Below.size b1) (Obj.cells #[.int .i64 xa,.int .i64 xt,.string xd] 49));have cL1:=Boxed.cell (B2.out.block _ HBL.out.lt |>.trans HBL.out);have cE1:=Boxed.cell (B2.out.block _ HBE.out.lt |>.trans HBE.out);clear b1)
    gi_region
    all_goals gi_wp2
    have HK2:=zid ((B2.out.block D (Array.getElem?_eq_some_iff.1 HK.out).1).trans HK.out);have HB2:=zid ((HB.out.trans (B2.out.mono hs1)).drew);refine ⟨by simp,.inl ⟨_,_,rfl,run_takeDeferred (w:=(w1.alloc (Obj.cells #[.int .i64 xa,.int .i64 xt,.string xd] 49)).drew) HK2.out,?_⟩⟩;refine ⟨.tuple #[.slice va ln vc,.int .i64 (k:Int),.int .i64 e],by simp [results,Tryz.results94,go_sem],?_⟩;exact HR.out _ (ownsRow_putObj (zaq HO.out B2.out.drew) _ HK2.out rfl) (HB2.out.trans (belowK_b (w:=w) (Nat.le_refl _) _ D _ _ (by omega) HK2.out rfl rfl))
 case stop=>
  rintro D c pre W _ _ h _;exact h.elim
theorem scan9_any (s:ByteArray) (base:Int) (w:World) (hs:s.size<=1000000000) (_: -9223372036854775808<=base) (_:base<=9223372036854775807):
 Calls Tryz.prog 94 #[.string s,.int .i64 base] w (zdw w (Gp.full s.data.toList base)):=by
 by_cases h:base<0\/1099511627776<base
 · exact zkC s base w h
 · exact scan9_in s base w hs (by omega) (by omega)
attribute [local go_sem] Oper.semAt_some
namespace Gp
end Gp
end
section
open Go.RowKit Go.Shelf Gp
attribute [local go_sem] Oper.semAt_some
namespace Gp
end Gp
end
namespace Ro
open Go.RowKit So Dsk Rts Sto
theorem zcG (L:List UInt8) (b:Int):(Gp.full L b).1.length<=L.length/\(Gp.full L b).2.1<=L.length:=by
 obtain ⟨ps,k,e,h1,h2,_⟩:=Gp.full_good L b;rw [h1];have h3:=h2.few;have h4:=h2.le;dsimp only;omega
theorem ze9 {w:World} {v:Value} {rs:List Rp.Rec} (h:zbw w v rs):∃a c,v= .slice a rs.length c:=by
 obtain ⟨a,c,e,_⟩:=h;exact ⟨a,c,e⟩
def zdT (w:World) (R:Option (List Rt.Sg)) (e:Ending) (w':World):Prop:=∃a n c,e= .returned (.tuple #[.slice a n c,.bool R.isSome])/\IsL Rts.SL w' (.slice a n c) (R.getD [])/\(∀j,j<w.heap.size->Sep (.slice a n c) j)/\Below w.heap.size w w'
theorem zdT.no {w w':World} (b:Below w.heap.size w w'):zdT w none (.returned (.tuple #[.slice none 0 0,.bool false])) w':=⟨_,_,_,rfl,IsL.nil _ _ _,fun _ _=>Sep.nil _ _ _,b⟩
theorem zaJ (D:Dp.Dk) (n:ByteArray):(dat D n=none/\zbj D.f n= .tuple #[.string ⟨#[]⟩,.int .i64 7])\/ ∃s:ByteArray,dat D n=some s.data.toList/\zbj D.f n= .tuple #[.string s,.int .i64 0]/\s.size<=Dp.used D.f:=by
 unfold dat
 rcases h:Dp.get D.f n with _ | f
 · exact .inl ⟨rfl,zcn h⟩
 · exact .inr ⟨f.d,rfl,zbV h,zcx (Dp.get_mem h).1⟩
theorem zeX (fa:Option Addr) (fn fc:Nat) (D:Dp.Dk) (ia:Option Addr) (ln ic:Nat) (l:List Int) (w:World) (k:Nat) (hv:IsL FL w (.slice fa fn fc) D.f) (hS:Bd D k) (hk:k<=100000) (hi:IsL Mfs.IL w (.slice ia ln ic) l) (hl:l.length<=1000) (hb:∀b∈l,0<=b/\b<=1099511627776):
 Calls Tryz.prog 52 #[zac (.slice fa fn fc) D,.slice ia ln ic] w (zdT w (Lg.segA D l)):=by
 obtain ⟨i0,hi0,hz0,hz1,hz2⟩:=info_parts zex;have hln:=hi.len.1;rw [<-hln] at hl;have HU:=zid hS.u;have RD:=zid fun (W:World) (n:ByteArray) (h:IsL FL W (.slice fa fn fc) D.f)=>Dsk.read_any (.slice fa fn fc) D n W h hS.r.2.1 (by have:=hS.n;omega);have HV:=zid hv;have HI:=zid hi;have HB:=zid fun j (h:j<ln)=>hb (l.getD j 0) (by rw [zao (by omega)];exact List.getElem_mem _)
 have HSB:=zid (show ∀x∈l.map (Lg.segG D),Rts.SgB x from fun x hx=>by
  obtain ⟨b,hbm,rfl⟩:=List.mem_map.1 hx;have h1:=hb b hbm;have h2:=zcG ((dat D (segN b)).getD []) b
  have h3:((dat D (segN b)).getD []).length<=Dp.used D.f:=by
   rcases zaJ D (segN b) with ⟨h,_⟩ | ⟨s,h,_,h4⟩
   · rw [h];exact Nat.zero_le _
   · rw [h];exact h4
  have h4:=hS.u
  refine ⟨?_,?_,?_⟩<;>unfold Lg.segG<;>dsimp only<;>omega)
 have HLN:=zid hln
 have HT:=zid fun j (h:j<ln)=>(show (l.map (Lg.segG D)).take (j+1)=(l.map (Lg.segG D)).take j++[Lg.segG D (l.getD j 0)] by
  have hj:j<l.length:=by omega
  rw [List.take_succ_eq_append_getElem (by rw [List.length_map];exact hj),List.getElem_map,zao hj])
 have HTL:=zid fun j (h:j<=ln)=>(show ((l.map (Lg.segG D)).take j).length=j by rw [List.length_take,List.length_map];omega);have G0:=zid (heap_alloc_new w (.cells #[.slice fa fn fc,.int .i64 D.c,.bool D.a,.int .i64 D.l,.bool D.x] 24));have B0:=zid ((Below.refl w.heap.size w).alloc (Nat.le_refl _) (.cells #[.slice fa fn fc,.int .i64 D.c,.bool D.a,.int .i64 D.l,.bool D.x] 24));clear hv hS hi hb hln;unfold zac at RD ⊢
 go_enter Tryz.func52,Tryz.ntmps52
 go_wp2_with fail;generalize World.alloc w _=w0 at G0 B0 ⊢;have hs0:=(Array.getElem?_eq_some_iff.1 G0.out).1
 go_loopw [6,15] (fun v i wr=>∃j:Nat,j<=ln/\i= .int .i64 j/\Hid (OwnL Rts.SL wr w0.heap.size v ((l.map (Lg.segG D)).take j)/\Below w0.heap.size w0 wr/\∀i,i<j->Lg.SegGood D l i)) (fun _ i _=>ln-(intOf i).toNat)
 case atStart=>exact ⟨0,Nat.zero_le _,rfl,zid ⟨by rw [List.take_zero];exact OwnL.nil _ _,Below.refl _ _,fun i h=>absurd h (Nat.not_lt_zero i)⟩⟩
 case round=>
  obtain ⟨j,hj,rfl,HR⟩:=hrel;have HBW:=zid (B0.out.trans (HR.out.2.1.mono B0.out.size))
  by_cases hlt:j<ln
  case neg=>
   obtain rfl:j=ln:=by omega
   have HO:=zid HR.out.1;have hO:=HR.out.1;rw [List.take_of_length_le (by rw [List.length_map,HLN.out];exact Nat.le_refl _)] at hO;have HY:=zid (Lg.segA_yes (D:=D) (l:=l) (by rw [<-HLN.out];exact HR.out.2.2));have HOO:=zid (zaW hO B0.out.size);have HSP:=zid (za7 (t:=0) HOO.out);obtain ⟨va,vc,rfl⟩:=own_slice hO;have HIS:=zid (hO.is (by rw [List.length_map, <-HLN.out];unfold maxLen;omega) HSB.out);have HSEP:=zid (show ∀t,t<w.heap.size->Sep _ t from fun t ht=>za7 HOO.out ht);clear hO HO HSP HR;go_wp2_with fail;go_ret2;rw [HY.out];exact ⟨va,_,vc,rfl,HIS.out,HSEP.out,HBW.out⟩
  case pos=>
  obtain ⟨ab,ao,rfl,c0⟩:=Mfs.il_at (HI.out.keep HBW.out) hlt;have hbb:=HB.out j hlt;obtain ⟨j1,hj1⟩:∃j1,j+1=j1:=⟨_,rfl⟩;have hTj:=HT.out j hlt;rw [hj1] at hTj;obtain ⟨L1,hL1⟩:∃L1,(l.map (Lg.segG D)).take j1=L1:=⟨_,rfl⟩;rw [hL1] at hTj;have HTj:=zid hTj;have HL1:=zid hL1;have hTJ:=HTL.out j hj
  have HC1:=zid fun h:j1<ln=>(show wr.cell? ⟨ab,ao+j1,none⟩=some (.int .i64 (l.getD j1 0)) by
   obtain ⟨b',o',e,c1⟩:=Mfs.il_at (HI.out.keep HBW.out) h
   injection e with e
   injection e with e1 e2
   subst e1 e2
   exact c1)
  have HGD:=zid (show Lg.SegGood D l j↔(dat D (segN (l.getD j 0))≠none/\(j1<ln->(Gp.full ((dat D (segN (l.getD j 0))).getD []) (l.getD j 0)).2.2=0/\l.getD j 0+((Gp.full ((dat D (segN (l.getD j 0))).getD []) (l.getD j 0)).1.length:Int)=l.getD j1 0)) by
   unfold Lg.SegGood
   rw [hj1, <-HLN.out])
  have HNO:=zid fun h:¬Lg.SegGood D l j=>Lg.segA_no (by rw [<-HLN.out];exact hlt) h
  have HGS:=zid fun h:Lg.SegGood D l j=>(show ∀i,i<j1->Lg.SegGood D l i from fun i hi=>by
   rcases Nat.lt_or_ge i j with h1 | h1
   · exact HR.out.2.2 i h1
   · rw [show i=j by omega];exact h)
  have HSG:=zid (show Rts.SL.enc (Lg.segG D (l.getD j 0))=[.int .i64 (l.getD j 0),.int .i64 ((Gp.full ((dat D (segN (l.getD j 0))).getD []) (l.getD j 0)).1.length:Nat),.int .i64 ((Gp.full ((dat D (segN (l.getD j 0))).getD []) (l.getD j 0)).2.1:Nat)] from rfl);have HOW:=zid HR.out.1;have hbl:=HR.out.2.1;have hbs:=hbl.size;obtain ⟨d0,d1,d2,d3,d4⟩:=zaa (hkeep G0.out hbl);have hwl:w.heap.size<wr.heap.size:=Nat.lt_of_lt_of_le hs0 hbs;have hal:=block_lt_of_cell c0;have HBL:=zid hbl;have hw1:IntKind.i64.wrap ((ln:Int)-1)=(ln:Int)-1:=IntWalk.i64_in _ ⟨by omega,by omega⟩
  have hw2:IntKind.i64.wrap ((j:Int)+1)=(j1:Int):=by rw [<-hj1];exact IntWalk.i64_in _ ⟨by omega,by omega⟩
  generalize (l.map (Lg.segG D)).take j=L0 at*;generalize Lg.segG D (l.getD j 0)=sg at*;generalize l.getD j 0=b at*;generalize l.getD j1 0=bn at*;have SN:=zid fun W:World=>zfD b W (by omega);have RB:=fun (W:World) (h:IsL FL W (.slice fa fn fc) D.f)=>RD.out W (segN b) h;clear HR hTj hL1 hbl hj
  rcases zaJ D (segN b) with ⟨h1,h2⟩ | ⟨s,h1,h2,h3⟩
  case inl=>
   rw [h2] at RB;unfold segN at RB;replace RB:=zid RB;have HF:=zid (HNO.out fun h=>(HGD.out.1 h).1 h1);clear h1 h2 HNO HGD HGS HSG hw1 hw2 hTJ;go_upto_region 5 with (fail)
   go_region_held3 (fun W=>(∀b o,b<wr.heap.size->W.cell? ⟨b,o,none⟩=wr.cell? ⟨b,o,none⟩)/\Below wr.heap.size wr W) (first | with_reducible assumption | with_reducible exact KW.dr _ | with_reducible exact KW.keep (by assumption) (Below.refl _ _).drew | with_reducible exact KW.keep (by assumption) (by assumption)) (first | (go_at_call 54;refine (SN.out _).mono ?_;rintro e w5 ⟨rfl,q5⟩;have s5:=KW.keep (by assumption) q5) | (go_at_call 22;refine (RB.out _ (HV.out.keep (HBW.out.trans ((KW.bel (by assumption)).mono HBW.out.size)))).mono ?_;rintro e w5 ⟨rfl,q5⟩;have s5:=KW.keep (by assumption) q5))
   all_goals
    rename_i hh
    have LB:=zid (HBW.out.trans ((KW.bel hh).mono HBW.out.size));clear hh;go_wp2_with fail;go_ret2;rw [HF.out];exact zdT.no LB.out
  case inr=>
  rw [h2] at RB;unfold segN at RB;replace RB:=zid RB;rw [h1,Option.getD_some] at HGD HSG
  have hs9:s.size<=1000000000:=by have:=HU.out;omega
  have SC:=zid fun W:World=>Go.Proofs.YtooipogbmfkeeaaGreat.scan9_any s b W hs9 (by omega) (by omega);have hfw:=zcG s.data.toList b;have hsl:s.data.toList.length=s.size:=rfl;rw [hsl] at hfw;generalize Gp.full s.data.toList b=F at*;obtain ⟨ps,kk,er⟩:=F;dsimp only at HGD HSG hfw;obtain ⟨pn,hpn⟩:∃pn,ps.length=pn:=⟨_,rfl⟩;have HPN:=zid (show (ps.map Prod.fst).length=pn by rw [List.length_map];exact hpn);rw [hpn] at HGD HSG hfw;have hw3:IntKind.i64.wrap (b+(pn:Int))=b+(pn:Int):=IntWalk.i64_in _ ⟨by omega,by omega⟩
  have HF:=zid fun (h:j1<ln) (h':er≠0\/b+(pn:Int)≠bn)=>HNO.out fun hg=>by
   obtain ⟨g1,g2⟩:=(HGD.out.1 hg).2 h
   rcases h' with h' | h'
   · exact h' g1
   · exact h' g2
  have HG:=zid fun (h:j1<ln->er=0/\b+(pn:Int)=bn)=>HGS.out (HGD.out.2 ⟨by simp,h⟩);clear h1 h2 h3 hpn HNO HGD HGS hfw hsl;go_upto_region 5 with (fail)
  go_cut [9,10] (fun v e wc=>v= .string s/\e= .int .i64 0/\Below wr.heap.size wr wc)
  case first=>
   clear hw1 hw2 hw3
   go_region_held3 (fun W=>(∀b o,b<wr.heap.size->W.cell? ⟨b,o,none⟩=wr.cell? ⟨b,o,none⟩)/\Below wr.heap.size wr W) (first | with_reducible assumption | with_reducible exact KW.dr _ | with_reducible exact KW.keep (by assumption) (Below.refl _ _).drew | with_reducible exact KW.keep (by assumption) (by assumption)) (first | (go_at_call 54;refine (SN.out _).mono ?_;rintro e w5 ⟨rfl,q5⟩;have s5:=KW.keep (by assumption) q5) | (go_at_call 22;refine (RB.out _ (HV.out.keep (HBW.out.trans ((KW.bel (by assumption)).mono HBW.out.size)))).mono ?_;rintro e w5 ⟨rfl,q5⟩;have s5:=KW.keep (by assumption) q5))
   all_goals
    rename_i hh
    have LB:=zid (KW.bel hh);clear hh;go_wp2_with fail;go_meet
    case rel=>exact ⟨rfl,rfl,LB.out⟩
  case rest=>
  obtain ⟨rfl,rfl,bc⟩:=hcut;have hb5:=bc.size;go_wp2_with fail;refine (SC.out _).mono ?_;rintro e w5 ⟨rv,rfl,hrv,b5⟩;obtain ⟨ra,rc,rfl⟩:=ze9 hrv;have bw5:=bc.trans (b5.mono hb5);rw [HPN.out];have HB5:=zid (HBW.out.trans (bw5.mono HBW.out.size));have HBL5:=zid (HBL.out.trans (bw5.mono hbs));have HO5:=zid (HOW.out.keep bw5);have hC1:=fun h:j1<ln=>(bw5.cell (p:=⟨ab,ao+j1,none⟩) hal).trans (HC1.out h);clear hrv b5 bc bw5 d0 d1 d2 d3 d4 c0 SC SN RB HC1;dsimp only
  by_cases hgood:j1<ln->er=0/\b+(pn:Int)=bn
  case neg=>
   have hlast:j1<ln:=Classical.byContradiction fun h=>hgood fun h'=>absurd h' h;have hcell:=hC1 hlast
   have hj2:(j:Int)<(ln:Int)-1:=by omega
   have hj3:(j1:Int)<(ln:Int):=by omega
   by_cases he:er=0
   · subst he
     have hne:b+(pn:Int)≠bn:=fun h=>hgood fun _=>⟨rfl,h⟩
     replace HF:=zid (HF.out hlast (.inr hne))
     have hne':(b+(pn:Int)==bn)=false:=by simpa using hne
     clear hgood HG hC1 hne HOW HO5 HTj HSG;go_wp2_with fail;go_ret2;rw [HF.out];exact zdT.no HB5.out
   · replace HF:=zid (HF.out hlast (.inl he))
     have he':(er != 0)=true:=by simpa using he
     clear hgood HG hC1 hcell HOW HO5 HTj HSG;go_wp2_with fail;go_ret2;rw [HF.out];exact zdT.no HB5.out
  case pos=>
  replace HG:=zid (HG.out hgood);have HO6:=HO5.out;unfold OwnL at HO6;rw [hTJ] at HO6;have HOX:=zid (show (w5.alloc (.cells [Value.int .i64 b,.int .i64 (pn:Int),.int .i64 (kk:Int)].toArray 75)).ownsRow w0.heap.size 75 3 u6 j (Rts.SL.vals L0) from HO6.alloc _);have HNEW:=zid (zas w5 w5.heap.size [Value.int .i64 b,.int .i64 (pn:Int),.int .i64 (kk:Int)] 75 rfl);have HLT:=zid fun k' (h:_)=>HO5.out.lt k' h;have HBX:=zid (HBL5.out.alloc HBL5.out.size (.cells [Value.int .i64 b,.int .i64 (pn:Int),.int .i64 (kk:Int)].toArray 75))
  have HSN:=zid fun (v':Value) (w3:World) (h:w3.ownsRow w0.heap.size 75 3 v' (j+1) (Rts.SL.vals L0++[Value.int .i64 b,.int .i64 (pn:Int),.int .i64 (kk:Int)]))=>(show OwnL Rts.SL w3 w0.heap.size v' L1 by
   rw [HTj.out]
   exact OwnL.snoc (n:=L0.length) (by rw [hTJ];exact h) HSG.out.symm rfl)
  have hs5:=HBL5.out.size
  have hd:(decide ((j:Int)<(ln:Int)-1)=false)\/(j1<ln/\er=0/\b+(pn:Int)=bn):=by
   by_cases h:j1<ln
   · exact .inr ⟨h,hgood h⟩
   · exact .inl (by simp;omega)
  clear HF HO6 HSG HTj HOW HBL5 HO5
  rcases hd with hd | ⟨hlast,rfl,rfl⟩
  case inl=>
   clear hgood hC1
   go_wp2_with (at_builtin;refine wpList_append_own _ rfl _ _ 27 rfl w0.heap.size 75 i0 (.agg #[.int .i64 0,.int .i64 0,.int .i64 0]) 3 24 Tryz.underlying27 hi0 hz0 hz1 hz2 rfl (by decide) _ _ _ rfl HOX.out ⟨w5.heap.size,0,none⟩ 1 1 [.int .i64 b,.int .i64 (pn:Int),.int .i64 (kk:Int)] (by simp [go_sem]) rfl HNEW.out (by simp [Value.oneCell']) (by unfold maxLen;omega) (by omega) (by simp;omega) ?_;intro v' w3 hown' hgrow3 hnil3)
   go_roundw
   case rel=>exact ⟨j1,by omega,rfl,zid ⟨by rw [HL1.out];exact HSN.out v' w3 hown',HBX.out.grown hgrow3 (by simp;omega) (fun q hq=>(HLT.out q hq).1),HG.out⟩⟩
   case measure=>simp [intOf];omega
  case inr=>
   have hcell:=hC1 hlast
   have hj2:(j:Int)<(ln:Int)-1:=by omega
   have hj3:(j1:Int)<(ln:Int):=by omega
   clear hgood hC1
   go_wp2_with (at_builtin;refine wpList_append_own _ rfl _ _ 27 rfl w0.heap.size 75 i0 (.agg #[.int .i64 0,.int .i64 0,.int .i64 0]) 3 24 Tryz.underlying27 hi0 hz0 hz1 hz2 rfl (by decide) _ _ _ rfl HOX.out ⟨w5.heap.size,0,none⟩ 1 1 [.int .i64 b,.int .i64 (pn:Int),.int .i64 (kk:Int)] (by simp [go_sem]) rfl HNEW.out (by simp [Value.oneCell']) (by unfold maxLen;omega) (by omega) (by simp;omega) ?_;intro v' w3 hown' hgrow3 hnil3)
   go_roundw
   case rel=>exact ⟨j1,by omega,rfl,zid ⟨by rw [HL1.out];exact HSN.out v' w3 hown',HBX.out.grown hgrow3 (by simp;omega) (fun q hq=>(HLT.out q hq).1),HG.out⟩⟩
   case measure=>simp [intOf];omega
end Ro
namespace Sto
open Go.RowKit So Dsk Rts
theorem zig (fv gv:Value) (S:St) (w:World) (hg:IsL Rts.SL w gv S.g) (_:S.g≠[]):
 Calls Tryz.prog 95 #[zag fv gv S] w fun e w'=>e= .returned (.int .i64 (floor S))/\Below w.heap.size w w':=by
 obtain ⟨ga,gn,gc,rfl⟩:∃a n c,gv= .slice a n c:=by obtain ⟨a,c,h,_⟩:=hg;exact ⟨a,_,c,h⟩
 have hgl:=hg.len.1;have hpos:0<S.g.length:=List.length_pos_iff.2 (by assumption);obtain ⟨m,rfl⟩:∃m,gn=m+1:=⟨gn-1,by omega⟩;have HG:=zid fun (W:World) (b:Below w.heap.size w W)=>zck (hg.keep b) (Nat.zero_lt_succ m)
 have HL:=zid (show S.g.getD 0 Rt.zero=S.g.headD Rt.zero by cases S.g<;>rfl)
 have HF:=zid (show floor S=(S.g.headD Rt.zero).b from rfl);rw [HL.out] at HG;generalize S.g.headD Rt.zero=g at*;unfold zag;have hb0:=zid ((Below.refl w.heap.size w).alloc (Nat.le_refl _) (.cells (zaV fv (.slice ga (m+1) gc) S) 30));have g0:=heap_alloc_new w (.cells (zaV fv (.slice ga (m+1) gc) S) 30);unfold zaV at hb0 g0;obtain ⟨b,off,rfl,c0,_,_⟩:=HG.out _ hb0.out;obtain ⟨⟨d0,d1,d2,d3,d4⟩,d5,d6,d7,d8,d9,d10⟩:=zab g0;simp only [Nat.zero_mul,Nat.add_zero] at c0
 have hz:(((m+1:Nat):Int)==0)=false:=by simp;omega
 clear hg hgl hpos g0
 go_enter Tryz.func95,Tryz.ntmps95
 go_wp2_with fail;go_ret;exact ⟨by rw [HF.out];rfl,hb0.out⟩
theorem zlE (fv:Value) (D:Dp.Dk) (n:ByteArray) (w:World) (hv:IsL FL w fv D.f) (hS:Sm D):
 Calls Tryz.prog 143 #[zac fv D,.string n] w fun e w'=>e= .returned (.bool (Dp.get D.f n).isSome)/\Below w.heap.size w w':=by
 have b0:=(Below.refl w.heap.size w).alloc (Nat.le_refl _) (.cells #[fv,.int .i64 D.c,.bool D.a,.int .i64 D.l,.bool D.x] 24);have C:=zid (Dsk.read_any fv D n _ (hv.keep b0) hS.r.2.1 (by have:=hS.n;omega));obtain ⟨d0,d1,d2,d3,d4⟩:=zaa (heap_alloc_new w (.cells #[fv,.int .i64 D.c,.bool D.a,.int .i64 D.l,.bool D.x] 24));have B0:=zid b0;clear hv hS b0;unfold zac at C ⊢
 cases hg:Dp.get D.f n with
 | none=>
  rw [zcn hg] at C;clear hg
  go_enter Tryz.func143,Tryz.ntmps143
  go_wp2_with fail;refine C.out.mono ?_;rintro e w1 ⟨rfl,b1⟩;have B1:=zid (B0.out.trans (b1.mono B0.out.size));clear b1;go_wp2_with fail;go_ret;exact ⟨rfl,B1.out⟩
 | some f=>
  rw [zbV hg] at C;clear hg
  go_enter Tryz.func143,Tryz.ntmps143
  go_wp2_with fail;refine C.out.mono ?_;rintro e w1 ⟨rfl,b1⟩;have B1:=zid (B0.out.trans (b1.mono B0.out.size));clear b1;go_wp2_with fail;go_ret;exact ⟨rfl,B1.out⟩
end Sto
end Go.Proofs.YtooipogbmfkeeaaGreat

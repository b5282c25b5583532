/-
  Parts of what the laws of this seat stand on:StoVal,ManVal,StoMan,CrcRef.
-/
import Derived.BigQuiet
import Derived.IntWalk
import Derived.Laws.IdiomStrings
import Derived.Lib.Hide
import Derived.Outline
import Derived.Shelf.RegionOpenPlain
import Derived.Test.YtgmppfpllogdcaaGreatBi1
import Derived.Test.YtgmppfpllogdcaaGreatBi13
import Derived.Test.YtgmppfpllogdcaaGreatBi2
import Derived.Test.YtgmppfpllogdcaaGreatBi4
import Derived.Test.YtgmppfpllogdcaaGreatBi7
import Derived.Test.YtgmppfpllogdcaaGreatProg
import Derived.WalkKit
import Derived.WalkSpells
set_option maxRecDepth 100000
set_option maxHeartbeats 6400000
namespace Go.Proofs.YtgmppfpllogdcaaGreat
namespace Sto
open Go.RowKit So Dsk Rts
def Sep (v:Value) (t:Nat):Prop:=∀a k c,v= .slice (some a) k c->0<k->a.block≠t
theorem Sep.nil (t c:Nat) (a:Option Addr):Sep (.slice a 0 c) t:=fun _ _ _ e h=>by injection e with _ e2;omega
section
variable {α:Type} {Y:Lay α} {W:World} {v:Value} {l:List α} {t:Nat}
theorem IsL.blk (h:IsL Y W v l) {a:Addr} {k c:Nat} (e:v= .slice (some a) k c) (hk:0<k):a.block<W.heap.size:=by
 subst e;obtain ⟨a',cap',e,_,_,h3⟩:=h
 injection e with e1 e2 e3
 rcases h3 with h3 | ⟨b,off,h4,h5⟩
 · subst h3;simp at e2;omega
 · rw [<-e1] at h4
   injection h4 with h4
   subst h4
   have h6:0<(Y.vals l).length:=by rw [Y.vals_len, <-e2];exact Nat.mul_pos hk Y.pos
   have:=h5 0 _ (List.getElem?_eq_getElem h6);exact block_lt_of_cell this
theorem IsL.sep_new (h:IsL Y W v l) (ht:W.heap.size<=t):Sep v t:=fun _ _ _ e hk=>by have:=IsL.blk h e hk;omega
theorem IsL.setC (h:IsL Y W v l) (hs:Sep v t) (o:Nat) (x:Value):IsL Y (W.setCell ⟨t,o,none⟩ x) v l:=by
 obtain ⟨a,cap,rfl,h1,h2,h3⟩:=h;refine ⟨a,cap,rfl,h1,h2,?_⟩
 rcases h3 with h3 | ⟨b,off,rfl,h4⟩
 · exact .inl h3
 · by_cases h0:l=[]
   · exact .inl h0
   · refine .inr ⟨b,off,rfl,fun j u hj=>?_⟩
     rw [World.cell?_setCell_other _ _ _ _ (fun e=>hs _ _ _ rfl (List.length_pos_iff.2 h0) (by injection e with e;exact e.symm))]
     exact h4 j u hj
theorem IsL.set5 (h:IsL Y W v l) (hs:Sep v t) (x y z u q:Value):IsL Y (set5 W t x y z u q) v l:=
 IsL.setC (IsL.setC (IsL.setC (IsL.setC (IsL.setC h hs _ _) hs _ _) hs _ _) hs _ _) hs _ _
theorem zcP {B:Nat} (h:OwnL Y W B v l) (ht:t<B):Sep v t:=fun a k c e hk=>by
 subst e
 rcases h.2 with ⟨e,_⟩ | ⟨g,cap,cur,e,h1,_⟩
 · cases e
 · injection e with e1
   injection e1 with e1
   subst e1;show g≠t;omega
end
theorem zeh {W:World} {k:Nat} {cs:Array Value} {t e:TypeId} {fz:Nat×Nat} (h:W.heap[k]?=some (.cells cs t fz)) (hte:t≠e) {base size n:Nat} {v:Value} {xs:List Value} (hr:W.ownsRow base e size v n xs):some k≠v.ownBlock:=by
 rcases hr.2 with ⟨rfl,_⟩ | ⟨g,cap,cur,rfl,_,hgb,_⟩
 · simp [Value.ownBlock]
 · intro e'
   obtain rfl:k=g:=by simpa [Value.ownBlock] using e'
   rw [h] at hgb
   injection hgb with hgb
   injection hgb with _ e1
   exact hte e1
theorem zcg {W W':World} {k:Nat} {cs:Array Value} {t e:TypeId} {fz:Nat×Nat} (h:W.heap[k]?=some (.cells cs t fz)) (hte:t≠e) {base size n:Nat} {v:Value} {xs:List Value} (hr:W.ownsRow base e size v n xs) (hg:W.grownBy W' v.ownBlock):W'.heap[k]?=some (.cells cs t fz):=
 (hg.block k (Array.getElem?_eq_some_iff.1 h).1 (zeh h hte hr)).trans h
theorem zjR {W W':World} {b o:Nat} {x:Value} (h:W.cell? ⟨b,o,none⟩=some x) {e:TypeId} {base size n:Nat} {v:Value} {xs:List Value} (hr:W.ownsRow base e size v n xs) (hb:b<base) (hg:W.grownBy W' v.ownBlock):W'.cell? ⟨b,o,none⟩=some x:=
 (World.cell?_of_block (hg.block b (block_lt_of_cell h) (fun e'=>by have:=(World.ownsRow.lt hr b e'.symm).1;omega))).trans h
structure DkS (w:World) (fv:Value) (R:Dp.Dk) (fv':Value) (w':World):Prop where
 f:IsL FL w' fv' R.f
 s:∀t,t<w.heap.size->Sep fv t->Sep fv' t
 w:Below w.heap.size w w'
theorem rk_s {w:World} {fv:Value} {l0:List Dp.Fl} {R:Dp.Dk×Int} {e:Ending} {w':World} (h:zib w fv l0 R e w') (hv:IsL FL w fv l0) (hS:Sm R.1):∃a n c,e= .returned (.tuple #[zac (.slice a n c) R.1,.int .i64 R.2])/\DkS w fv R.1 (.slice a n c) w':=by
 obtain ⟨a,n,c,rfl,hk,hb⟩:=h;refine ⟨a,n,c,rfl,?_,?_,hb⟩
 · rcases hk with ⟨e1,e2⟩ | hk
   · rw [e1,e2];exact hv.keep hb
   · exact hk.is (by have:=hS.n;unfold maxLen;omega) hS.flb
 · intro t ht hs
   rcases hk with ⟨e1,_⟩ | hk
   · rw [e1];exact hs
   · exact zcP hk ht
def zag (fv gv:Value) (S:St):Value:= .agg #[fv,.int .i64 S.d.c,.bool S.d.a,.int .i64 S.d.l,.bool S.d.x,.int .i64 S.v,gv,.int .i64 S.x,.int .i64 S.s,.int .i64 S.z,.int .u32 S.c]
def zaU (fv gv:Value) (S:St):Array Value:= #[fv,.int .i64 S.d.c,.bool S.d.a,.int .i64 S.d.l,.bool S.d.x,.int .i64 S.v,gv,.int .i64 S.x,.int .i64 S.s,.int .i64 S.z,.int .u32 S.c]
structure Stb (S:St):Prop where
 d:Sm S.d
 v:0<=S.v/\S.v<=1152921504606846976
 n:S.g.length<=1000
 g:∀g∈S.g,(0<=g.b/\g.b<=1152921504606846976)/\(0<=g.n/\g.n<=1152921504606846976)/\(0<=g.z/\g.z<=1152921504606846976)
 x:0<=S.x/\S.x<=1152921504606846976
 s:0<=S.s/\S.s<=1152921504606846976
 z:0<=S.z/\S.z<=1152921504606846976
 c:0<=S.c/\S.c<4294967296
structure StS (w:World) (fv gv:Value) (R:St) (fv' gv':Value) (w':World):Prop where
 f:IsL FL w' fv' R.d.f
 g:IsL Rts.SL w' gv' R.g
 s:∀t,t<w.heap.size->Sep fv t->Sep gv t->Sep fv' t/\Sep gv' t
 w:Below w.heap.size w w'
def zdW (w:World) (fv gv:Value) (R:St×Int) (e:Ending) (w':World):Prop:=∃fa fn fc ga gn gc,e= .returned (.tuple #[zag (.slice fa fn fc) (.slice ga gn gc) R.1,.int .i64 R.2])/\StS w fv gv R.1 (.slice fa fn fc) (.slice ga gn gc) w'
theorem zab {W:World} {k:Nat} {T:TypeId} {a b c d e f g h i j l:Value} (hh:W.heap[k]?=some (.cells #[a,b,c,d,e,f,g,h,i,j,l] T (0,0))):
 (W.cell? ⟨k,0,none⟩=some a/\W.cell? ⟨k,1,none⟩=some b/\W.cell? ⟨k,2,none⟩=some c/\W.cell? ⟨k,3,none⟩=some d/\W.cell? ⟨k,4,none⟩=some e)/\W.cell? ⟨k,5,none⟩=some f/\W.cell? ⟨k,6,none⟩=some g/\W.cell? ⟨k,7,none⟩=some h/\W.cell? ⟨k,8,none⟩=some i/\W.cell? ⟨k,9,none⟩=some j/\W.cell? ⟨k,10,none⟩=some l:=
 ⟨⟨by rw [Lib.cell_of_heap hh];rfl,by rw [Lib.cell_of_heap hh];rfl,by rw [Lib.cell_of_heap hh];rfl,by rw [Lib.cell_of_heap hh];rfl,by rw [Lib.cell_of_heap hh];rfl⟩,by rw [Lib.cell_of_heap hh];rfl,by rw [Lib.cell_of_heap hh];rfl,by rw [Lib.cell_of_heap hh];rfl,by rw [Lib.cell_of_heap hh];rfl,by rw [Lib.cell_of_heap hh];rfl,by rw [Lib.cell_of_heap hh];rfl⟩
theorem zaf {W:World} {k:Nat} {T:TypeId} {cs:Array Value} (h:W.heap[k]?=some (.cells cs T (0,0))):∀o,W.frozen? ⟨k,o,none⟩=false:=fun o=>Lib.frozen_of_heap h o
theorem zgj (fv gv:Value) (S:St) (w:World) (hg:IsL Rts.SL w gv S.g) (hn:S.g≠[]) (hB:Stb S):
 Calls Tryz.prog 45 #[zag fv gv S] w fun e w'=>e= .returned (.string (segN (lastG S).b))/\Below w.heap.size w w':=by
 obtain ⟨ga,gn,gc,rfl⟩:∃a n c,gv= .slice a n c:=by obtain ⟨a,c,h,_⟩:=hg;exact ⟨a,_,c,h⟩
 have hgl:=hg.len.1;have hpos:0<S.g.length:=List.length_pos_iff.2 hn;obtain ⟨m,rfl⟩:∃m,gn=m+1:=⟨gn-1,by omega⟩
 have hm:S.g.length-1=m:=by omega
 have hn2:=hB.n
 have C:=zid fun W:World=>zbq (lastG S).b W (by
  have:=(hB.g (lastG S) (by unfold lastG;rw [zao (show S.g.length-1<S.g.length by omega)];exact List.getElem_mem _)).1
  omega)
 have HG:=zid fun (W:World) (b:Below w.heap.size w W)=>zce (hg.keep b) (Nat.lt_succ_self m);have HL:=zid (show S.g.getD m Rt.zero=lastG S by unfold lastG;rw [hm]);rw [HL.out] at HG;generalize lastG S=g at*;unfold zag;have hb0:=zid ((Below.refl w.heap.size w).alloc (Nat.le_refl _) (.cells (zaU fv (.slice ga (m+1) gc) S) 31));have g0:=heap_alloc_new w (.cells (zaU fv (.slice ga (m+1) gc) S) 31);unfold zaU at hb0 g0;obtain ⟨b,off,rfl,c0,_,_⟩:=HG.out _ hb0.out;obtain ⟨⟨d0,d1,d2,d3,d4⟩,d5,d6,d7,d8,d9,d10⟩:=zab g0
 have hmw:IntKind.i64.wrap (((m+1:Nat):Int)-1)=(m:Int):=by
  rw [show ((m+1:Nat):Int)-1=(m:Int) from by omega];exact IntWalk.i64_in _ ⟨by omega,by omega⟩
 have hmw2:IntKind.i64.wrap (m:Int)=(m:Int):=IntWalk.i64_in _ ⟨by omega,by omega⟩;clear hg hgl hpos hm hn hB g0
 go_enter Tryz.func45,Tryz.ntmps45
 go_wp2_with fail;refine (C.out _).mono ?_;rintro e w1 ⟨rfl,b1⟩;have B1:=zid (hb0.out.trans (b1.mono hb0.out.size));clear b1;go_wp2_with fail;go_ret;exact ⟨rfl,B1.out⟩
end Sto
namespace Mfs
open Go.RowKit Qm
def IL:Lay Int where
 enc:=fun n=>[.int .i64 n]
 k:=1
 len:=fun _=>rfl
 one:=by intro f u hu;rw [List.mem_singleton] at hu;subst hu;rfl
 pos:=by decide
 T:=3
 ok:=fun n=> -9223372036854775808<=n/\n<=9223372036854775807
 z:=0
theorem il_at {w:World} {fa:Option Addr} {fn fc:Nat} {l:List Int} (h:IsL IL w (.slice fa fn fc) l) {i:Nat} (hi:i<fn):
 ∃b off,fa=some ⟨b,off,none⟩/\w.cell? ⟨b,off+i,none⟩=some (.int .i64 (l.getD i 0)):=by
 have h':=h;obtain ⟨a',cap',e,_,_,h3⟩:=h
 injection e with e1 e2 e3
 rcases h3 with h3 | ⟨b,off,h4,_⟩
 · rw [h3] at e2;simp at e2;omega
 · subst e1
   subst h4
   have:=h'.at_ hi 0 _ rfl;rw [show off+i*IL.k+0=off+i from by show off+i*1+0=_;omega] at this;exact ⟨b,off,rfl,this⟩
theorem zeA (w:World) (a b:Nat):(w.drewN a).drewN b=w.drewN (a+b):=by unfold World.drewN;simp [Nat.add_assoc]
def mnVal (fa:Option Addr) (fn fc:Nat) (m:Mn):Value:= .agg #[.int .i64 m.v,.slice fa fn fc,.int .i64 m.z,.int .u32 m.c]
structure MnB (m:Mn):Prop where
 v: -9223372036854775808<=m.v/\m.v<=9223372036854775807
 z: -9223372036854775808<=m.z/\m.z<=9223372036854775807
 c:0<=m.c/\m.c<4294967296
theorem cells4 {W:World} {k:Nat} {T:TypeId} {x y z u:Value} (h:W.heap[k]?=some (.cells #[x,y,z,u] T (0,0))):W.cell? ⟨k,0,none⟩=some x/\W.cell? ⟨k,1,none⟩=some y/\W.cell? ⟨k,2,none⟩=some z/\W.cell? ⟨k,3,none⟩=some u:=
 ⟨by rw [cell_of_row _ _ 0 _ _ _ h];rfl,by rw [cell_of_row _ _ 1 _ _ _ h];rfl,by rw [cell_of_row _ _ 2 _ _ _ h];rfl,by rw [cell_of_row _ _ 3 _ _ _ h];rfl⟩
theorem at_cases (l:List Int) (k:Nat):
 (¬AtOk l k/\(l.getD k 0<0\/(0<=l.getD k 0/\1099511627776<l.getD k 0)\/(0<=l.getD k 0/\l.getD k 0<=1099511627776/\∃j,k=j+1/\l.getD k 0<=l.getD j 0)))\/
 (AtOk l k/\0<=l.getD k 0/\l.getD k 0<=1099511627776/\(k=0\/ ∃j,k=j+1/\l.getD j 0<l.getD k 0)):=by
 by_cases h1:l.getD k 0<0
 · exact .inl ⟨fun h=>by have:=h.1;omega,.inl h1⟩
 · by_cases h2:1099511627776<l.getD k 0
   · exact .inl ⟨fun h=>by have:=h.2.1;omega,.inr (.inl ⟨by omega,h2⟩)⟩
   · cases k with
     | zero=>exact .inr ⟨⟨by omega,by omega,fun h=>absurd h (Nat.lt_irrefl 0)⟩,by omega,by omega,.inl rfl⟩
     | succ j=>
      by_cases h3:l.getD j 0<l.getD (j+1) 0
      · exact .inr ⟨⟨by omega,by omega,fun _=>h3⟩,by omega,by omega,.inr ⟨j,rfl,h3⟩⟩
      · exact .inl ⟨fun h=>h3 (h.2.2 (by omega)),.inr (.inr ⟨by omega,by omega,j,rfl,by omega⟩)⟩
theorem ziW {l:List Int} {k:Nat} (h:∀j,j<k->AtOk l j) (hk:AtOk l k):∀j,j<k+1->AtOk l j:=by
 intro j hj
 by_cases e:j=k
 · subst e;exact hk
 · exact h j (by omega)
theorem zdO (fa:Option Addr) (fn fc:Nat) (m:Mn) (b:Bool) (w:World) (hv:IsL IL w (.slice fa fn fc) m.l) (hB:MnB m) (hb:b=true↔Ok m):
 Calls Tryz.prog 109 #[mnVal fa fn fc m] w fun e w'=>e= .returned (.bool b)/\Below w.heap.size w w':=by
 have HV:=zid hv;have hfl:=hv.len.1
 have hfm:fn<=9223372036854775807:=by have:=hv.len.2;unfold maxLen at this;omega
 have HN:=zid (show ¬Ok m->b=false from fun h=>by rw [<-Bool.not_eq_true,hb];exact h);have HY:=zid (show Ok m->b=true from hb.2);have HFL:=zid hfl;obtain ⟨⟨v0,v1⟩,⟨z0,z1⟩,c0,c1⟩:=hB;obtain ⟨mv,ml,mz,mc⟩:=m;unfold mnVal;dsimp only at*;have HA:=zid ((Below.refl w.heap.size w).alloc (Nat.le_refl _) (.cells #[.int .i64 mv,.slice fa fn fc,.int .i64 mz,.int .u32 mc] 76));obtain ⟨x0,x1,x2,x3⟩:=cells4 (heap_alloc_new w (.cells #[.int .i64 mv,.slice fa fn fc,.int .i64 mz,.int .u32 mc] 76));clear hv hb hfl
 by_cases g1:mv<1
 · have HF:=zid (HN.out fun h=>by have:=h.v0;dsimp only at this;omega)
   go_enter Tryz.func109,Tryz.ntmps109
   go_wp2_with fail;go_ret;exact ⟨by rw [HF.out];rfl,HA.out⟩
 have e1:decide (mv<1)=false:=by simpa using g1
 by_cases g2:1099511627776<mv
 · have HF:=zid (HN.out fun h=>by have:=h.v1;dsimp only at this;omega)
   go_enter Tryz.func109,Tryz.ntmps109
   go_wp2_with fail;go_ret;exact ⟨by rw [HF.out];rfl,HA.out⟩
 have e2:decide ((1099511627776:Int)<mv)=false:=by simpa using g2
 by_cases g3:(fn:Int)<1
 · have HF:=zid (HN.out fun h=>by have:=h.n0;dsimp only at this;rw [<-HFL.out] at this;omega)
   go_enter Tryz.func109,Tryz.ntmps109
   go_wp2_with fail;go_ret;exact ⟨by rw [HF.out];rfl,HA.out⟩
 have e3:decide ((fn:Int)<1)=false:=by simp;omega
 by_cases g4:(64:Int)<(fn:Int)
 · have HF:=zid (HN.out fun h=>by have:=h.n1;dsimp only at this;rw [<-HFL.out] at this;omega)
   go_enter Tryz.func109,Tryz.ntmps109
   go_wp2_with fail;go_ret;exact ⟨by rw [HF.out];rfl,HA.out⟩
 have e4:decide ((64:Int)<(fn:Int))=false:=by simp;omega
 go_enter Tryz.func109,Tryz.ntmps109
 go_wp2_with fail;generalize World.alloc w _=w0 at HA x0 x1 x2 x3 ⊢
 go_loopw [3] (fun i wr=>∃k n:Nat,k<=fn/\i= .int .i64 k/\(∀j,j<k->AtOk ml j)/\wr=w0.drewN n) (fun i _=>fn-(intOf i).toNat)
 case atStart=>exact ⟨0,0,Nat.zero_le _,rfl,fun j hj=>absurd hj (Nat.not_lt_zero j),rfl⟩
 case round=>
  obtain ⟨k,n,hk,rfl,hall,rfl⟩:=hrel;have HALL:=zid hall;have HBn:=zid fun q:Nat=>HA.out.trans ((zae (w:=w0) q).mono HA.out.size);clear hall
  by_cases hlt:k<fn
  · obtain ⟨g,off,rfl,y0⟩:=il_at (HV.out.keep HA.out) hlt
    rcases at_cases ml k with ⟨hno,hbad⟩ | ⟨hyes,i1,i2,hy⟩
    · have HF:=zid (HN.out fun h=>hno (h.at_ k (by dsimp only;rw [<-HFL.out];exact hlt)))
      clear hno
      rcases hbad with i1 | ⟨i1,i2⟩ | ⟨i1,i2,j,rfl,i3⟩
      · generalize ml.getD k 0=f at*
        go_wp2_with fail
        go_quiet (fail)
        go_wp2_with fail;go_ret;exact ⟨by rw [HF.out];rfl,by rw [zeA];exact HBn.out _⟩
      · generalize ml.getD k 0=f at*
        have q1:decide (f<0)=false:=by simpa using i1
        go_wp2_with fail
        go_quiet (fail)
        go_wp2_with fail;go_ret;exact ⟨by rw [HF.out];rfl,by rw [zeA];exact HBn.out _⟩
      · obtain ⟨g',off',e,u0⟩:=il_at (HV.out.keep HA.out) (show j<fn by omega)
        obtain ⟨rfl,rfl⟩:g=g'/\off=off':=by simpa using e
        generalize ml.getD (j+1) 0=f at*;generalize ml.getD j 0=f' at*
        have q1:decide (f<0)=false:=by simpa using i1
        have q2:decide ((1099511627776:Int)<f)=false:=by simpa using i2
        have q4:decide (0<j+1)=true:=by simp
        have hjn:j<fn:=by omega
        have hwr:IntKind.i64.wrap (j:Int)=(j:Int):=IntWalk.i64_in _ ⟨by omega,by omega⟩;clear e;go_wp2_with fail
        go_quiet (fail)
        go_wp2_with fail;go_ret;exact ⟨by rw [HF.out];rfl,by rw [zeA];exact HBn.out _⟩
    · have GY:=zid (ziW HALL.out hyes)
      clear hyes
      rcases hy with rfl | ⟨j,rfl,i3⟩
      · rw [Nat.add_zero] at y0
        generalize ml.getD 0 0=f at*
        have q1:decide (f<0)=false:=by simpa using i1
        have q2:decide ((1099511627776:Int)<f)=false:=by simpa using i2
        go_wp2_with fail
        go_quiet (fail)
        go_wp2_with fail
        go_roundw
        case rel=>exact ⟨_,_,by omega,by go_num,GY.out,rfl⟩
        case measure=>simp [intOf];omega
      · obtain ⟨g',off',e,u0⟩:=il_at (HV.out.keep HA.out) (show j<fn by omega)
        obtain ⟨rfl,rfl⟩:g=g'/\off=off':=by simpa using e
        generalize ml.getD (j+1) 0=f at*;generalize ml.getD j 0=f' at*
        have q1:decide (f<0)=false:=by simpa using i1
        have q2:decide ((1099511627776:Int)<f)=false:=by simpa using i2
        have q4:decide (0<j+1)=true:=by simp
        have q3:decide (f<=f')=false:=by simpa using i3
        have hjn:j<fn:=by omega
        have hwr:IntKind.i64.wrap (j:Int)=(j:Int):=IntWalk.i64_in _ ⟨by omega,by omega⟩;clear e;go_wp2_with fail
        go_quiet (fail)
        go_wp2_with fail
        go_roundw
        case rel=>exact ⟨_,_,by first | (clear hwr;omega) | omega,by go_num,GY.out,rfl⟩
        case measure=>first | (clear hwr;simp [intOf];omega) | (simp [intOf];omega)
  · obtain ⟨g,off,rfl,y0⟩:=il_at (HV.out.keep HA.out) (show 0<fn by omega)
    rw [Nat.add_zero] at y0
    have HOK:=zid (show ((ml.getD 0 0=0/\mz=0/\mc=0)\/(ml.getD 0 0≠0/\1<=mz/\mz<=65536))->b=true from fun h=>HY.out ⟨by dsimp only;omega,by dsimp only;omega,by dsimp only;rw [<-HFL.out];omega,by dsimp only;rw [<-HFL.out];omega,fun i hi=>HALL.out i (by dsimp only at hi;rw [<-HFL.out] at hi;omega),h,⟨c0,c1⟩⟩);have HNO:=zid (show ¬((ml.getD 0 0=0/\mz=0/\mc=0)\/(ml.getD 0 0≠0/\1<=mz/\mz<=65536))->b=false from fun h=>HN.out fun hk=>h hk.z);generalize ml.getD 0 0=f at*
    have hk2:¬(k:Int)<(fn:Int):=by omega
    by_cases h0:f=0
    · subst h0
      have HV2:=zid (show (decide (mz=0)&&decide (mc=0))=b by
       by_cases h1:mz=0/\mc=0
       · rw [HOK.out (.inl ⟨rfl,h1⟩)];simp [h1.1,h1.2]
       · rw [HNO.out fun h=>by rcases h with h | h;exact h1 h.2;exact h.1 rfl]
         simp;exact fun a c=>h1 ⟨a,c⟩)
      by_cases h1:mz=0
      · subst h1
        by_cases h2:mc=0
        · subst h2
          go_wp2_with fail
          go_ret;exact ⟨by rw [<-HV2.out];rfl,HBn.out _⟩
        · have q1:(mc==0)=false:=by simpa using h2
          have HF:=zid (show b=false by rw [<-HV2.out];simp [h2])
          clear h2;go_wp2_with fail;go_ret;exact ⟨by rw [HF.out];rfl,HBn.out _⟩
      · have q1:(mz==0)=false:=by simpa using h1
        have HF:=zid (show b=false by rw [<-HV2.out];simp [h1])
        clear h1;go_wp2_with fail;go_ret;exact ⟨by rw [HF.out];rfl,HBn.out _⟩
    · have q0:(f==0)=false:=by simpa using h0
      have HOK2:=zid (fun h=>HOK.out (.inr ⟨h0,h⟩))
      have HNO2:=zid (show ¬(1<=mz/\mz<=65536)->b=false from fun h=>HNO.out fun h'=>by
       rcases h' with h' | h'
       · exact h0 h'.1
       · exact h h'.2)
      clear h0
      by_cases h1:1<=mz
      · by_cases h2:mz<=65536
        · have HF:=zid (HOK2.out ⟨h1,h2⟩)
          go_wp2_with fail
          go_ret;exact ⟨by rw [HF.out];rfl,HBn.out _⟩
        · have HF:=zid (HNO2.out fun h=>h2 h.2)
          have q2:decide (mz<=65536)=false:=by simpa using h2
          go_wp2_with fail;go_ret;exact ⟨by rw [HF.out];rfl,HBn.out _⟩
      · have HF:=zid (HNO2.out fun h=>h1 h.1)
        have q1:decide (1<=mz)=false:=by simpa using h1
        go_wp2_with fail;go_ret;exact ⟨by rw [HF.out];rfl,HBn.out _⟩
end Mfs
namespace Sto
open Go.RowKit So Dsk Rts
theorem zc1 (fv gv:Value) (S:St) (w:World) (hg:IsL Rts.SL w gv S.g) (_:S.g≠[]):
 Calls Tryz.prog 36 #[zag fv gv S] w fun e w'=>e= .returned (.int .i64 (floor S))/\Below w.heap.size w w':=by
 obtain ⟨ga,gn,gc,rfl⟩:∃a n c,gv= .slice a n c:=by obtain ⟨a,c,h,_⟩:=hg;exact ⟨a,_,c,h⟩
 have hgl:=hg.len.1;have hpos:0<S.g.length:=List.length_pos_iff.2 (by assumption);obtain ⟨m,rfl⟩:∃m,gn=m+1:=⟨gn-1,by omega⟩;have HG:=zid fun (W:World) (b:Below w.heap.size w W)=>zce (hg.keep b) (Nat.zero_lt_succ m)
 have HL:=zid (show S.g.getD 0 Rt.zero=S.g.headD Rt.zero by cases S.g<;>rfl)
 have HF:=zid (show floor S=(S.g.headD Rt.zero).b from rfl);rw [HL.out] at HG;generalize S.g.headD Rt.zero=g at*;unfold zag;have hb0:=zid ((Below.refl w.heap.size w).alloc (Nat.le_refl _) (.cells (zaU fv (.slice ga (m+1) gc) S) 31));have g0:=heap_alloc_new w (.cells (zaU fv (.slice ga (m+1) gc) S) 31);unfold zaU at hb0 g0;obtain ⟨b,off,rfl,c0,_,_⟩:=HG.out _ hb0.out;obtain ⟨⟨d0,d1,d2,d3,d4⟩,d5,d6,d7,d8,d9,d10⟩:=zab g0;simp only [Nat.zero_mul,Nat.add_zero] at c0;clear hg hgl hpos g0
 go_enter Tryz.func36,Tryz.ntmps36
 go_wp2_with fail;go_ret;exact ⟨by rw [HF.out];rfl,hb0.out⟩
theorem ze4:(Tryz.prog.info? 3).map (fun i=>(i.zero,i.size,i.bytes))=some (some (.int .i64 0),1,8):=by kernel_rfl
def ziY (w:World) (m:Qm.Mn) (e:Ending) (w':World):Prop:=∃a n c,e= .returned (Mfs.mnVal a n c m)/\IsL Mfs.IL w' (.slice a n c) m.l/\Below w.heap.size w w'
theorem zcW {W:World} {k:Nat} {T:TypeId} {x y z u:Value} (h:W.heap[k]?=some (.cells #[x,y,z,u] T (0,0))):
 W.cell? ⟨k,0,none⟩=some x/\W.cell? ⟨k,1,none⟩=some y/\W.cell? ⟨k,2,none⟩=some z/\W.cell? ⟨k,3,none⟩=some u:=
 ⟨by rw [Lib.cell_of_heap h];rfl,by rw [Lib.cell_of_heap h];rfl,by rw [Lib.cell_of_heap h];rfl,by rw [Lib.cell_of_heap h];rfl⟩
theorem zcl {w:World} {B:Nat} {e:TypeId} {k n:Nat} {v:Value} {xs:List Value} (h:w.ownsRow B e k v n xs):∃a c,v= .slice a n c:=by
 rcases h.2 with ⟨rfl,rfl⟩ | ⟨g,cap,cur,rfl,_⟩
 · exact ⟨none,0,rfl⟩
 · exact ⟨_,_,rfl⟩
theorem zaG (W:World) (b o:Nat) (v:Value):W.grownBy (W.setCell ⟨b,o,none⟩ v) (some b):=
 ⟨rfl,rfl,rfl,by show W.heap.size<=(W.heap.modify b _).size;rw [Array.size_modify];exact Nat.le_refl _,fun k _ hk=>Below.heap_setCell _ _ _ k (fun e=>hk (by rw [e]))⟩
theorem zd1 (fv gv:Value) (S:St) (w:World) (hg:IsL Rts.SL w gv S.g) (hB:Stb S):
 Calls Tryz.prog 33 #[zag fv gv S] w (ziY w (man S)):=by
 obtain ⟨ga,gn,gc,rfl⟩:∃a n c,gv= .slice a n c:=by obtain ⟨a,c,h,_⟩:=hg;exact ⟨a,_,c,h⟩
 have hgl:=hg.len.1
 have hgn:gn<=1000:=by rw [hgl];exact hB.n
 have HGL:=zid hgl;have HB:=zid hB;obtain ⟨i1,hj,hy0,hy1,hy2⟩:=info_parts ze4
 have mixed:Tryz.prog.follows Departure.mixedOrders=true:=by kernel_rfl
 have R1:=zid (halloc (o:= .cells #[.int .i64 S.v,.slice none 0 0,.int .i64 S.z,.int .u32 S.c] 76) (halloc (o:= .cells #[.int .i64 0,.slice none 0 0,.int .i64 0,.int .u32 0] 76) (heap_alloc_new w (.cells (zaU fv (.slice ga gn gc) S) 31))));have R2:=halloc (o:= .cells #[.int .i64 S.v,.slice none 0 0,.int .i64 S.z,.int .u32 S.c] 76) (heap_alloc_new (w.alloc (.cells (zaU fv (.slice ga gn gc) S) 31)) (.cells #[.int .i64 0,.slice none 0 0,.int .i64 0,.int .u32 0] 76));have R3:=heap_alloc_new ((w.alloc (.cells (zaU fv (.slice ga gn gc) S) 31)).alloc (.cells #[.int .i64 0,.slice none 0 0,.int .i64 0,.int .u32 0] 76)) (.cells #[.int .i64 S.v,.slice none 0 0,.int .i64 S.z,.int .u32 S.c] 76);have RB:=zid ((((Below.refl w.heap.size w).alloc (Nat.le_refl _) (.cells (zaU fv (.slice ga gn gc) S) 31)).alloc (by simp) (.cells #[.int .i64 0,.slice none 0 0,.int .i64 0,.int .u32 0] 76)).alloc (by simp;omega) (.cells #[.int .i64 S.v,.slice none 0 0,.int .i64 S.z,.int .u32 S.c] 76));simp only [World.size_alloc] at R2 R3;replace R2:=zid R2;replace R3:=zid R3;clear hgl hB;unfold zaU at R1 R2 R3 RB;unfold zag
 go_enter Tryz.func33,Tryz.ntmps33
 go_wp2_with fail;generalize ((w.alloc _).alloc _).alloc _=w0 at R1 R2 R3 RB ⊢;obtain ⟨⟨k0,k1,k2,k3,k4⟩,k5,k6,k7,k8,k9,k10⟩:=zab R1.out
 go_loopw [4] (fun i wr=>∃k:Nat,k<=gn/\i= .int .i64 k/\∃v,OwnL Mfs.IL wr w.heap.size v ((S.g.map (·.b)).take k)/\wr.heap[w.heap.size]?=some (.cells #[fv,.int .i64 S.d.c,.bool S.d.a,.int .i64 S.d.l,.bool S.d.x,.int .i64 S.v,.slice ga gn gc,.int .i64 S.x,.int .i64 S.s,.int .i64 S.z,.int .u32 S.c] 31 (0,0))/\wr.heap[w.heap.size+1]?=some (.cells #[.int .i64 0,.slice none 0 0,.int .i64 0,.int .u32 0] 76 (0,0))/\wr.heap[w.heap.size+1+1]?=some (.cells #[.int .i64 S.v,v,.int .i64 S.z,.int .u32 S.c] 76 (0,0))/\Below w.heap.size w wr) (fun i _=>gn-(intOf i).toNat)
 case atStart=>exact ⟨0,Nat.zero_le _,rfl,_,OwnL.nil _ _,R1.out,R2.out,R3.out,RB.out⟩
 case round=>
  obtain ⟨k,hk,rfl,v,hO,r1,r2,r3,hb⟩:=hrel;have Q1:=zid r1;have Q2:=zid r2;have Q3:=zid r3;have QB:=zid hb;have HO:=zid hO;obtain ⟨⟨z0,z1,z2,z3,z4⟩,z5,z6,z7,z8,z9,z10⟩:=zab r1
  by_cases hlt:k<gn
  · obtain ⟨b,off,rfl,c0,_,_⟩:=zce (hg.keep hb) hlt
    have hbl:b<w.heap.size:=by
     have:=IsL.blk hg rfl (by omega);exact this
    have hlen:((S.g.map (·.b)).take k).length=k:=by rw [List.length_take,List.length_map, <-HGL.out];omega
    have HT:=zid (show (S.g.map (·.b)).take (k+1)=(S.g.map (·.b)).take k++[(S.g.getD k Rt.zero).b] from by
     have hk':k<(S.g.map (·.b)).length:=by rw [List.length_map, <-HGL.out];exact hlt
     rw [List.take_succ_eq_append_getElem hk'];rw [zao (by rw [<-HGL.out];exact hlt)]
     simp)
    have hO2:=hO;unfold OwnL at hO2;rw [hlen] at hO2
    obtain ⟨va,vc,rfl⟩:∃a c,v= .slice a k c:=by
     rcases hO2.2 with ⟨h,h'⟩ | ⟨g,cap,cur,h,_⟩
     · exact ⟨none,0,by rw [h,h']⟩
     · exact ⟨_,_,h⟩
    have hg0:=(HB.out.g _ (by rw [zao (show k<S.g.length by rw [<-HGL.out];exact hlt)];exact List.getElem_mem _):((0<=(S.g.getD k Rt.zero).b/\(S.g.getD k Rt.zero).b<=1152921504606846976)/\_));generalize (S.g.getD k Rt.zero).b=base at*
    have n1:¬(w.heap.size+1+1=b):=by omega
    have n2:¬(b=w.heap.size+1+1):=by omega
    have n3:¬(w.heap.size+1+1=w.heap.size):=by omega
    have n4:¬(w.heap.size=w.heap.size+1+1):=by omega
    have HOW:=zid ((zau hO2 (Below.refl _ wr).drew).alloc (.cells #[.int .i64 base] 3))
    have KP:=zid fun (w1:World) (hg1:(wr.drew.alloc (.cells #[.int .i64 base] 3)).grownBy w1 (Value.slice va k vc).ownBlock)=>(show w1.heap[w.heap.size]?=some (.cells #[fv,.int .i64 S.d.c,.bool S.d.a,.int .i64 S.d.l,.bool S.d.x,.int .i64 S.v,.slice (some ⟨b,off,none⟩) gn gc,.int .i64 S.x,.int .i64 S.s,.int .i64 S.z,.int .u32 S.c] 31 (0,0))/\w1.heap[w.heap.size+1]?=some (.cells #[.int .i64 0,.slice none 0 0,.int .i64 0,.int .u32 0] 76 (0,0))/\w1.heap[w.heap.size+1+1]?=some (.cells #[.int .i64 S.v,.slice va k vc,.int .i64 S.z,.int .u32 S.c] 76 (0,0))/\Below w.heap.size w w1/\w1.cell? ⟨b,off+k*3,none⟩=some (.int .i64 base) from
     ⟨zcg (halloc (show wr.drew.heap[w.heap.size]?=_ from Q1.out)) (by decide) HOW.out hg1,zcg (halloc (show wr.drew.heap[w.heap.size+1]?=_ from Q2.out)) (by decide) HOW.out hg1,zcg (halloc (show wr.drew.heap[w.heap.size+1+1]?=_ from Q3.out)) (by decide) HOW.out hg1,
      (QB.out.drew.alloc QB.out.size _).grown hg1 (by have:=QB.out.size;simp;omega) (fun r hr=>(World.ownsRow.lt HOW.out r hr).1),
      zjR (show (wr.drew.alloc (.cells #[.int .i64 base] 3)).cell? ⟨b,off+k*3,none⟩=some (.int .i64 base) from (World.cell?_alloc_some _ _ _ (by show (wr.cell? _).isSome=true;rw [c0];rfl)).trans c0) HOW.out hbl hg1⟩)
    have hwl:=(Array.getElem?_eq_some_iff.1 r3).1;obtain ⟨m0,m1,m2,m3⟩:=zcW r3;clear r1 r2 r3 hb hO2;go_wp2_with fail
    go_region_law_o (first | (refine zaB rfl (.tmp 20) (.tmp 27) 74 rfl w.heap.size 3 i1 (.int .i64 0) 1 8 Tryz.underlying74 hj hy0 hy1 hy2 rfl (by decide) (.slice va k vc) k _ (by simp [Act.eval]) HOW.out ⟨wr.heap.size,0,none⟩ 1 1 [.int .i64 base] (by simp [Act.eval]) rfl (zar wr.drew _ [.int .i64 base] 3 rfl) (by simp [Value.oneCell']) (by unfold maxLen;omega) (by omega) (by simp;omega) ?_;rintro v1 w1 ho1 hg1;obtain ⟨q1,q2,q3,q4,q5⟩:=KP.out w1 hg1;have q6:=(zab q1).2.2.1;obtain ⟨q7,q8,q9,q10⟩:=zcW q3;have q11:=Lib.frozen_of_heap q3 1;obtain ⟨ua,uc,rfl⟩:=zcl ho1))
    all_goals
     have FIN:=zid (show OwnL Mfs.IL (w1.setCell ⟨w.heap.size+1+1,1,none⟩ (.slice ua (k+1) uc)) w.heap.size (.slice ua (k+1) uc) ((S.g.map (·.b)).take (k+1)) from by
      refine World.ownsRow.kept ?_ (zaG _ _ _ _) (.inr (zeh q3 (by decide) ho1).symm);rw [HT.out,Lay.vals_append,List.length_append,hlen]
      exact ho1)
     have G1:=zid ((Below.heap_setCell w1 ⟨w.heap.size+1+1,1,none⟩ (.slice ua (k+1) uc) w.heap.size (fun e=>n4 e)).trans q1);have G2:=zid ((Below.heap_setCell w1 ⟨w.heap.size+1+1,1,none⟩ (.slice ua (k+1) uc) (w.heap.size+1) (fun e=>by have e:w.heap.size+1=w.heap.size+1+1:=e;omega)).trans q2);have G3:=zid (heap_setCell_same _ _ 1 _ _ (.slice ua (k+1) uc) q3);have G4:=zid (q4.setCell (p:=⟨w.heap.size+1+1,1,none⟩) (by show w.heap.size<=w.heap.size+1+1;omega) (.slice ua (k+1) uc));clear q1 q2 q3 q4 q5 q6 q7 q8 q9 q10 q11 ho1 hg1;go_wp2_with fail
     go_roundw
     case rel=>exact ⟨k+1,by omega,by go_num,_,FIN.out,G1.out,G2.out,G3.out,G4.out⟩
     case measure=>simp [intOf];omega
  · obtain rfl:k=gn:=by omega
    have HE:=zid (show (S.g.map (·.b)).take k=S.g.map (·.b) by rw [HGL.out, <-List.length_map (f:=(·.b)),List.take_length])
    rw [HE.out] at HO
    obtain ⟨va,vn,vc,rfl⟩:∃a n c,v= .slice a n c:=by obtain ⟨a,c,h⟩:=zcl HO.out;exact ⟨a,_,c,h⟩
    obtain ⟨m0,m1,m2,m3⟩:=zcW r3;obtain ⟨p0,p1,p2,p3⟩:=zcW r2;have fz:=fun o=>Lib.frozen_of_heap r2 o;have hwl:=(Array.getElem?_eq_some_iff.1 r3).1;clear r1 r2 r3 hb
    have W4:=zid fun (a:Value)=>(show ∃W,(((wr.setCell ⟨w.heap.size+1,0,none⟩ (.int .i64 S.v)).setCell ⟨w.heap.size+1,1,none⟩ a).setCell ⟨w.heap.size+1,2,none⟩ (.int .i64 S.z)).setCell ⟨w.heap.size+1,3,none⟩ (.int .u32 S.c)=W/\W.heap[w.heap.size+1]?=some (.cells #[.int .i64 S.v,a,.int .i64 S.z,.int .u32 S.c] 76 (0,0))/\Below w.heap.size w W/\OwnL Mfs.IL W w.heap.size (.slice va vn vc) (S.g.map (·.b)) from by
     have b0:=Q2.out;refine ⟨_,rfl,heap_setCell_same _ _ 3 _ _ _ (heap_setCell_same _ _ 2 _ _ _ (heap_setCell_same _ _ 1 _ _ _ (heap_setCell_same _ _ 0 _ _ _ b0))),(((QB.out.setCell (p:=⟨w.heap.size+1,0,none⟩) (Nat.le_succ _) _).setCell (p:=⟨w.heap.size+1,1,none⟩) (Nat.le_succ _) _).setCell (p:=⟨w.heap.size+1,2,none⟩) (Nat.le_succ _) _).setCell (p:=⟨w.heap.size+1,3,none⟩) (Nat.le_succ _) _,?_⟩;have ne:some (w.heap.size+1)≠(Value.slice va vn vc).ownBlock:=zeh b0 (by decide) HO.out
     exact World.ownsRow.kept (World.ownsRow.kept (World.ownsRow.kept (World.ownsRow.kept HO.out (zaG _ _ _ _) (.inr ne.symm)) (zaG _ _ _ _) (.inr ne.symm)) (zaG _ _ _ _) (.inr ne.symm)) (zaG _ _ _ _) (.inr ne.symm))
    go_wp2_with fail;obtain ⟨W,hW,hw1,hw2,hw3⟩:=W4.out (.slice va vn vc);rw [hW];obtain ⟨y0,y1,y2,y3⟩:=zcW hw1;refine bodyPost_ret (v:= .agg #[.int .i64 S.v,.slice va vn vc,.int .i64 S.z,.int .u32 S.c]) (by simp [results,Tryz.results33,go_sem,y0,y1,y2,y3]) rfl ?_;refine ⟨va,vn,vc,rfl,hw3.is (by rw [List.length_map, <-HGL.out];unfold maxLen;omega) fun y hy=>?_,hw2⟩;rw [List.mem_map] at hy;obtain ⟨g,hg',rfl⟩:=hy;have:=(HB.out.g g hg').1;exact ⟨by omega,by omega⟩
end Sto
section
open Go.RowKit Go.Lib
theorem turn_xor {x:Nat} (h:x<4294967296):4294967295^^^x=Cp.turn x:=by
 unfold Cp.turn
 apply Nat.eq_of_testBit_eq
 intro i;have h1:=Nat.testBit_two_pow_sub_succ (n:=32) (x:=x) (by omega) i
 have e:2^32-(x+1)=4294967295-x:=by omega
 rw [e] at h1;rw [h1,Nat.testBit_xor,show 4294967295=2^32-1 from rfl,Nat.testBit_two_pow_sub_one]
 rcases Nat.lt_or_ge i 32 with hi | hi
 · simp [hi]
 · have:x.testBit i=false:=Nat.testBit_lt_two_pow (Nat.lt_of_lt_of_le (show x<2^32 from h) (Nat.pow_le_pow_right (by omega) hi))
   simp [this]
theorem zcc {x:Nat} (h:x<4294967296):bits .xor .u32 IntKind.u32.max (x:Int)=(Cp.turn x:Nat):=by
 rw [<-turn_xor h];exact u32_xor_nat 4294967295 x (by omega) h
theorem bit_odd {x:Nat} (h:x<4294967296) (ho:x%2=1):bits .xor .u32 ((x:Int)/2) 2197175160=(Cp.bit x:Nat):=by
 unfold Cp.bit;rw [ho,Nat.one_mul];exact u32_xor_nat (x/2) 2197175160 (by omega) (by omega)
theorem bit_even {x:Nat} (ho:¬x%2=1):Cp.bit x=x/2:=by
 unfold Cp.bit;rw [show x%2=0 from by omega,Nat.zero_mul,Nat.xor_zero]
theorem zkX (x:Nat) (s:ByteArray) (k:Nat) (h:k<s.size):Cp.on x (s.data.toList.take (k+1))=Cp.byte (Cp.on x (s.data.toList.take k)) s[k]:=by
 rw [List.take_succ_eq_append_getElem (by simpa using h),Cp.on_append];rfl
theorem zhC (x:Nat) (s:ByteArray) (w:World) (hx:x<4294967296) (hs:s.size<=maxLen):
 Calls Tryz.prog 70 #[.int .u32 (x:Int),.string s] w fun e w'=>e= .returned (.int .u32 (Cp.sum x s.data.toList:Nat))/\w=w':=by
 unfold maxLen at hs;have ht:=zcc hx;have htl:=Cp.turn_lt x;obtain ⟨T,hT⟩:∃T,Cp.turn x=T:=⟨_,rfl⟩;rw [hT] at ht htl;have HT:=zid hT;clear hT;have HB:=zid ht;clear ht
 go_enter Tryz.func70,Tryz.ntmps70
 go_wp2
 go_loop [5,6] (fun a i=>∃k:Nat,k<=s.size/\i= .int .i64 k/\a= .int .u32 (Cp.on T (s.data.toList.take k):Nat)) (fun _ i=>s.size-(RowKit.intOf i).toNat)
 case atStart=>exact ⟨0,Nat.zero_le _,rfl,congrArg (Value.int .u32) HB.out⟩
 case round=>
  obtain ⟨k,hk,rfl,rfl⟩:=hrel;have hX:=Cp.on_lt (s.data.toList.take k) htl;obtain ⟨X,hXe⟩:∃X,Cp.on T (s.data.toList.take k)=X:=⟨_,rfl⟩;have HX:=zid hXe;rw [hXe] at hX ⊢;clear hXe
  by_cases hlt:k<s.size
  · have HS:=zid (zkX T s k hlt)
    have hb:=s[k].toNat_lt
    have hxor:=u32_xor_nat X s[k].toNat (by omega) (by omega)
    go_wp2
    obtain ⟨Y,hYe⟩:∃Y,X^^^s[k].toNat=Y:=⟨_,rfl⟩
    have hY:Y<4294967296:=by rw [<-hYe];exact Nat.xor_lt_two_pow (show X<2^32 from hX) (by omega)
    have HY:=zid hYe;rw [hYe];clear hxor hYe hb
    go_loop [5,7] (fun a j=>∃i:Nat,i<=8/\j= .int .i64 i/\a= .int .u32 (Cp.bitN i Y:Nat)) (fun _ j=>8-(RowKit.intOf j).toNat)
    case atStart=>exact ⟨0,Nat.zero_le _,rfl,rfl⟩
    case round=>
     obtain ⟨i,hi,rfl,rfl⟩:=hrel;have hZ:=Cp.bitN_lt i hY;have HN:=zid (Cp.bitN_succ' i Y)
     by_cases hi8:i<8
     · obtain ⟨Z,hZe⟩:∃Z,Cp.bitN i Y=Z:=⟨_,rfl⟩
       rw [hZe] at hZ HN ⊢
       clear hZe
       by_cases hodd:Z%2=1
       · have hbit:=bit_odd hZ hodd
         have hodd':((Z:Int)%2==1)=true:=by simp;omega
         clear hodd
         go_wp2
         go_round
         case rel=>exact ⟨i+1,by omega,by go_num,by rw [HN.out]⟩
         case measure=>simp [RowKit.intOf];omega
       · have hbit:=zid (bit_even hodd)
         have hodd':((Z:Int)%2==1)=false:=by simp;omega
         clear hodd
         go_wp2
         go_round
         case rel=>exact ⟨i+1,by omega,by go_num,by rw [HN.out,hbit.out];go_num⟩
         case measure=>simp [RowKit.intOf];omega
     · have hi':i=8:=by omega
       subst hi'
       go_wp2
       go_round
       case rel=>exact ⟨k+1,by omega,by go_num,by rw [HS.out,HX.out, <-HY.out];rfl⟩
       case measure=>simp [RowKit.intOf];omega
  · have hlen:k=s.size:=by omega
    have HR:=zid hlen
    clear hlen
    go_wp2
    go_ret;refine ⟨?_,rfl⟩;refine congrArg (fun z=>Ending.returned (.int .u32 z)) ?_;rw [zcc hX, <-HX.out, <-HT.out,HR.out];unfold Cp.sum;rw [List.take_of_length_le (by simp)]
end
end Go.Proofs.YtgmppfpllogdcaaGreat

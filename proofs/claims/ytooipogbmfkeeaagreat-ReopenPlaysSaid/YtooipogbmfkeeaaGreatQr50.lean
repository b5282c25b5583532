/-
  Parts of what the laws of this seat stand on:zcL,RoTrn,Law14P.
-/
import Derived.Test.YtooipogbmfkeeaaGreatQr1
import Derived.BigRegion
import Derived.Laws.BitsAllLaws
import Derived.Laws.IdiomStrings
import Derived.Laws.NewBlocks
import Derived.Laws.Rows
import Derived.Lib.Hide
import Derived.Test.YtooipogbmfkeeaaGreatProg
import Derived.Test.YtooipogbmfkeeaaGreatQr22
import Derived.Test.YtooipogbmfkeeaaGreatQr46
import Derived.Test.YtooipogbmfkeeaaGreatQr49
import Derived.WalkKit
import Derived.WalkSpells
set_option maxRecDepth 100000
set_option maxHeartbeats 6400000
namespace Go.Proofs.YtooipogbmfkeeaaGreat
section
open Go.RowKit Go.Lib
def zcL (w:World) (B:Nat) (l:List UInt8):Prop:=
 ∀j (h:j<l.length),w.cell? ⟨B,j,none⟩=some (.int .u8 (l[j].toNat:Int))/\w.frozen? ⟨B,j,none⟩=false
theorem zcL.set {w:World} {B:Nat} {l:List UInt8} (h:zcL w B l) {j:Nat} (hj:j<l.length) (c:UInt8):
 zcL (w.setCell ⟨B,j,none⟩ (.int .u8 (c.toNat:Int))) B (l.set j c):=by
 intro i hi
 have hi':i<l.length:=by simpa using hi
 refine ⟨?_,by rw [World.frozen?_setCell];exact (h i hi').2⟩
 by_cases e:j=i
 · subst e
   rw [World.cell?_setCell_same _ _ _ (h j hj).1]
   simp
 · rw [World.cell?_setCell_other _ _ _ _ (by intro hh;exact e (by injection hh)),(h i hi').1,List.getElem_set_ne e]
theorem zcL.below {B C:Nat} {w w':World} {l:List UInt8} (h:zcL w B l) (hb:Below C w w') (hB:B<C):zcL w' B l:=by
 intro j hj;exact ⟨by rw [hb.cell (p:=⟨B,j,none⟩) hB];exact (h j hj).1,by rw [hb.frozen (p:=⟨B,j,none⟩) hB];exact (h j hj).2⟩
theorem zcL.conv {w:World} {B:Nat} {l:List UInt8} (h:zcL w B l) (cap:Nat):
 (convert 43 9 (.slice (some ⟨B,0,none⟩) l.length cap)).run Tryz.prog w= .ok (.string ⟨l.toArray⟩) w:=by
 refine run_convert_bytes_back w 43 9 5 ⟨B,0,none⟩ cap l Tryz.underlying43 Tryz.underlying5 Tryz.underlying9 (fun j hj=>?_)
 have e:(⟨B,0,none⟩:Addr).add j=⟨B,j,none⟩:=by unfold Addr.add;split<;>simp_all
 rw [e];exact (h j hj).1
theorem bytes_of (w:World) (s:ByteArray):∃cap W,(convert 9 43 (.string s)).run Tryz.prog w= .ok (.slice (some ⟨w.heap.size,0,none⟩) s.size cap) W/\
 zcL W w.heap.size s.data.toList/\Below w.heap.size w W/\w.heap.size<W.heap.size:=by
 refine ⟨_,_,run_bytes_of_string w 9 43 5 s Tryz.underlying9 Tryz.underlying43 Tryz.underlying5,?_,?_,?_⟩
 · intro j hj
   have hj':j<s.data.size:=by simpa using hj
   refine ⟨?_,?_⟩
   · exact (World.cell?_alloc_mark w.drew _ _ _ j).trans (by rw [bytesRow_at s _ j hj'];simp)
   · refine (World.frozen?_alloc_mark w.drew _ _ _ _ j).trans ?_
     have:j<(bytesRow s (grownCap w s.size 0 5)).size:=by unfold bytesRow;rw [Array.size_append,Array.size_map];omega
     rw [decide_eq_false (by omega)];rfl
 · exact (Below.drew (Below.refl _ _)).alloc (Nat.le_refl _) _
 · simp
end
namespace Ro
open Go.RowKit So Dsk Sto
theorem xor_b (c:UInt8) {x:Nat} (hx:x<256):bits .xor .u8 (c.toNat:Int) (x:Int)=((UInt8.ofNat (c.toNat^^^x)).toNat:Int):=by
 have hc:=c.toNat_lt;have h:c.toNat^^^x<2^8:=Nat.xor_lt_two_pow (show c.toNat<2^8 from by omega) (show x<2^8 from hx)
 have e:(UInt8.ofNat (c.toNat^^^x)).toNat=c.toNat^^^x:=by
  rw [UInt8.toNat_ofNat'];exact Nat.mod_eq_of_lt h
 rw [e];exact u8_xor_nat c.toNat x (by omega) hx
def zdj (l:List Dp.Fl) (i:Nat) (d:ByteArray):List Dp.Fl:=l.set i ⟨(l.getD i Dsk.zero).n,d,(l.getD i Dsk.zero).s⟩
theorem zgm (d:ByteArray):∀(l:List Dp.Fl) (i:Nat),i<l.length->(FL.vals l).set (i*3+1) (.string d)=FL.vals (zdj l i d)
 | g::l,0,_=>rfl
 | g::l,i+1,h=>by
  have:=zgm d l i (by simpa using h);unfold zdj at this ⊢;rw [show (i+1)*3+1=i*3+1+1+1+1 from by omega,List.set_cons_succ,List.getD_cons_succ,Lay.vals_cons,Lay.vals_cons, <-this]
  rfl
theorem ziB {β:Type} (φ:Dp.Fl->β) (l:List Dp.Fl) (i:Nat) (d:ByteArray) (h:i<l.length->φ ⟨(l.getD i Dsk.zero).n,d,(l.getD i Dsk.zero).s⟩=φ (l.getD i Dsk.zero)):(zdj l i d).map φ=l.map φ:=by
 unfold zdj;rw [List.map_set]
 by_cases hi:i<l.length
 · rw [h hi,show l.getD i Dsk.zero=l[i] by simp [List.getD_eq_getElem?_getD,hi]]
   rw [show φ l[i]=(l.map φ)[i]'(by simpa using hi) by simp,List.set_getElem_self]
 · rw [List.set_eq_of_length_le (by simpa using Nat.le_of_not_lt hi)]
theorem bd_turn {A:Dp.Dk} {k:Nat} (h:Bd A k) {i:Nat} (hi:i<A.f.length) {d:ByteArray} (hd:d.size=(A.f.getD i Dsk.zero).d.size):Bd {A with f:=zdj A.f i d} k:=by
 have hm:A.f.getD i Dsk.zero∈A.f:=by
  rw [show A.f.getD i Dsk.zero=A.f[i] by simp [List.getD_eq_getElem?_getD,hi]];exact List.getElem_mem hi
 refine ⟨h.b,⟨fun f hf=>?_,?_,h.r.2.2⟩,?_,?_⟩
 · rcases List.mem_or_eq_of_mem_set hf with hf | rfl
   · exact h.r.1 f hf
   · have:=h.r.1 _ hm
     exact ⟨this.1,this.2.1,by show _<=(d.size:Int);rw [hd];exact this.2.2⟩
 · have e:=ziB (fun f=>f.n) A.f i d (fun _=>rfl)
   have hp:(A.f.map fun f=>f.n).Pairwise Dp.Lt:=List.pairwise_map.2 h.r.2.1
   rw [<-e] at hp;exact List.pairwise_map.1 hp
 · show (zdj A.f i d).length<=k
   unfold zdj
   rw [List.length_set];exact h.n
 · show ((zdj A.f i d).map fun f=>f.d.size).sum<=_
   rw [ziB (fun f=>f.d.size) A.f i d (fun _=>hd)]
   exact h.u
theorem sum_sub {l l':List Nat} (h:l.Sublist l'):l.sum<=l'.sum:=by
 induction h with
 | slnil=>exact Nat.le_refl _
 | cons a _ ih=>rw [List.sum_cons];omega
 | cons_cons a _ ih=>rw [List.sum_cons,List.sum_cons];omega
theorem bd_gone {A:Dp.Dk} {k:Nat} (h:Bd A k) (i:Nat):Bd {A with f:=A.f.take i++A.f.drop (i+1)} k:=by
 have hs:(A.f.take i++A.f.drop (i+1)).Sublist A.f:=by
  rw [<-List.eraseIdx_eq_take_drop_succ];exact List.eraseIdx_sublist ..
 refine ⟨h.b,⟨fun f hf=>h.r.1 f (hs.subset hf),h.r.2.1.sublist hs,h.r.2.2⟩,Nat.le_trans hs.length_le h.n,Nat.le_trans ?_ h.u⟩;exact sum_sub (hs.map fun f=>f.d.size)
structure Tw (w:World) (fv:Value) (td g n cap:Nat) (A:Dp.Dk) (W:World):Prop where
 m:Ms w w.heap.size fv (.slice none 0 0) [(td,.cells #[.slice (some ⟨g,0,none⟩) n cap,.int .i64 A.c,.bool A.a,.int .i64 A.l,.bool A.x] 24)] [(.slice (some ⟨g,0,none⟩) n cap,A.f)] [] W
 o:OwnL FL W (td+1) (.slice (some ⟨g,0,none⟩) n cap) A.f
section
variable {w W W':World} {fv:Value} {td g n cap:Nat} {A:Dp.Dk}
theorem Tw.keep (h:Tw w fv td g n cap A W) (k:Below W.heap.size W W'):Tw w fv td g n cap A W':=⟨h.m.keep k,h.o.keep k⟩
theorem Tw.new {v:Value} {gs:List (Value×List Rt.Sg)} {fs:List (Value×List Dp.Fl)} (M:Ms w w.heap.size fv (.slice none 0 0) [(td,.cells #[v,.int .i64 A.c,.bool A.a,.int .i64 A.l,.bool A.x] 24)] fs gs W) (hd:td<W.heap.size) (k:Below W.heap.size W W')
 (ho:OwnL FL W' W.heap.size (.slice (some ⟨g,0,none⟩) n cap) A.f) (hm:A.f.length<=maxLen) (hb:∀f∈A.f,FlB f):Tw w fv td g n cap A (W'.setCell ⟨td,0,none⟩ (.slice (some ⟨g,0,none⟩) n cap)):=by
 have M1:=M.keep k;have hh:W'.heap[td]?=_:=M1.at_ (t:=td) mcs
 have hng:∀q,Value.ownBlock (.slice (some ⟨g,0,none⟩) n cap)=some q->q≠td:=fun q hq=>by have:=(ho.lt q hq).1;omega
 have ho2:=own_grown ho (zau W' td 0 (.slice (some ⟨g,0,none⟩) n cap)) hng
 have M2:Ms w w.heap.size fv (.slice none 0 0) [(td,.cells #[v,.int .i64 A.c,.bool A.a,.int .i64 A.l,.bool A.x] 24)] [(.slice (some ⟨g,0,none⟩) n cap,A.f)] [] W':=⟨M1.c,fun p hp=>by
  obtain rfl:=List.mem_singleton.1 hp
  exact ⟨ho.is hm hb,fun q hq=>by
   obtain rfl:=List.mem_singleton.1 hq
   exact za7 ho hd,fun j hj _ _=>za7 ho (Nat.lt_of_lt_of_le hj M.le)⟩,fun p hp=>absurd hp List.not_mem_nil,M1.le,M1.w⟩
 obtain ⟨Z,h1,h2⟩:=M2.lay1 (t:=td) (cs':=[(td,.cells #[.slice (some ⟨g,0,none⟩) n cap,.int .i64 A.c,.bool A.a,.int .i64 A.l,.bool A.x] 24)]) mcs 0 (.slice (some ⟨g,0,none⟩) n cap) (fun p hp=> .inl (by rw [List.mem_singleton.1 hp];rfl));rw [h1];rw [h1] at ho2;refine ⟨h2,⟨ho2.1,ho2.2.imp id ?_⟩⟩;rintro ⟨g',cap',cur,e,h3,h4⟩;exact ⟨g',cap',cur,e,by omega,h4⟩
theorem Tw.turn (h:Tw w fv td g n cap A W) {i:Nat} (hi:i<n) {d:ByteArray} (hd:d.size<=9223372036854775807) (hb:∀f∈A.f,FlB f):
 Tw w fv td g n cap {A with f:=zdj A.f i d} (W.setCell ⟨g,i*3+1,none⟩ (.string d)):=by
 have hI:=h.m.fl (v:= .slice (some ⟨g,0,none⟩) n cap) mcs;have hnl:n=A.f.length:=hI.len.1
 have hml:n<=maxLen:=by rw [hnl];exact hI.len.2
 obtain ⟨g',cap',cur,e,h1,h2,h3,h4,h5,h6⟩:=zbi h.o (by omega)
 injection e with e1 e2 e3
 injection e1 with e1
 injection e1 with e1
 subst e1 e3;have hlt:g<W.heap.size:=(Array.getElem?_eq_some_iff.1 h2).1;have hg:=zau W g (i*3+1) (.string d);have hh:=heap_setCell_same _ _ (i*3+1) _ _ (.string d) h2
 have ho:OwnL FL (W.setCell ⟨g,i*3+1,none⟩ (.string d)) (td+1) (.slice (some ⟨g,0,none⟩) (zdj A.f i d).length cap) (zdj A.f i d):=by
  refine zer h1 hh (by unfold zdj;rw [List.length_set];exact h3) h4 (by rw [Array.size_setIfInBounds];exact h5) ?_;rw [<-zgm d A.f i (by omega), <-h6,Array.toList_setIfInBounds,List.take_set];unfold zdj;rw [List.length_set]
 have hl2:(zdj A.f i d).length=n:=by unfold zdj;rw [List.length_set];exact hnl.symm
 rw [hl2] at ho
 refine ⟨⟨fun p hp=>?_,fun p hp=>?_,fun p hp=>absurd hp List.not_mem_nil,Nat.le_trans h.m.le hg.size,h.m.w.grown hg h.m.le (fun k hk=>by injection hk with hk;have:=(h.m.c _ mcs).1;omega)⟩,ho⟩
 · obtain rfl:=List.mem_singleton.1 hp
   exact ⟨(h.m.c _ mcs).1,(hg.block td (h.m.lt mcs) (fun e=>by injection e with e;omega)).trans (h.m.c _ mcs).2⟩
 · obtain rfl:=List.mem_singleton.1 hp
   refine ⟨ho.is (by rw [hl2];exact hml) (fun f hf=>?_),fun q hq=>?_,fun j hj _ _=>za7 ho (by have:=(h.m.c _ mcs).1;show j<td+1;have h9:w.heap.size<=td:=this;omega)⟩
   · rcases List.mem_or_eq_of_mem_set hf with hf | rfl
     · exact hb f hf
     · have hm:A.f.getD i Dsk.zero∈A.f:=by
        rw [show A.f.getD i Dsk.zero=A.f[i] by simp [List.getD_eq_getElem?_getD,show i<A.f.length by omega]];exact List.getElem_mem (by omega)
       have:=hb _ hm;exact ⟨this.1,hd,this.2.2⟩
   · obtain rfl:=List.mem_singleton.1 hq
     exact za7 ho (Nat.lt_succ_self td)
theorem Tw.gone (h:Tw w fv td g n cap A W) {v:Value} {l:List Dp.Fl} (hg:W.grownBy W' (some g)) (ho:OwnL FL W' (td+1) v l) (hm:l.length<=maxLen) (hb:∀f∈l,FlB f):
 Ms w w.heap.size fv (.slice none 0 0) [(td,.cells #[v,.int .i64 A.c,.bool A.a,.int .i64 A.l,.bool A.x] 24)] [(v,l)] [] (W'.setCell ⟨td,0,none⟩ v)/\W'.heap[td]?=some (.cells #[.slice (some ⟨g,0,none⟩) n cap,.int .i64 A.c,.bool A.a,.int .i64 A.l,.bool A.x] 24 (0,0)):=by
 have hgt:td+1<=g:=(h.o.lt g rfl).1;have hwd:w.heap.size<=td:=(h.m.c _ mcs).1
 have hc:W'.heap[td]?=some (.cells #[.slice (some ⟨g,0,none⟩) n cap,.int .i64 A.c,.bool A.a,.int .i64 A.l,.bool A.x] 24 (0,0)):=(hg.block td (h.m.lt mcs) (fun e=>by injection e with e;omega)).trans (h.m.at_ mcs)
 have M2:Ms w w.heap.size fv (.slice none 0 0) [(td,.cells #[.slice (some ⟨g,0,none⟩) n cap,.int .i64 A.c,.bool A.a,.int .i64 A.l,.bool A.x] 24)] [(v,l)] [] W':=⟨fun p hp=>by
  obtain rfl:=List.mem_singleton.1 hp
  exact ⟨hwd,hc⟩,fun p hp=>by
  obtain rfl:=List.mem_singleton.1 hp
  exact ⟨ho.is hm hb,fun q hq=>by
   obtain rfl:=List.mem_singleton.1 hq
   exact za7 ho (Nat.lt_succ_self td),fun j hj _ _=>za7 ho (by omega)⟩,fun p hp=>absurd hp List.not_mem_nil,Nat.le_trans h.m.le hg.size,h.m.w.grown hg h.m.le (fun k hk=>by injection hk with hk;omega)⟩
 obtain ⟨Z,h1,h2⟩:=M2.lay1 (t:=td) (cs':=[(td,.cells #[v,.int .i64 A.c,.bool A.a,.int .i64 A.l,.bool A.x] 24)]) mcs 0 v (fun p hp=> .inl (by rw [List.mem_singleton.1 hp];rfl));rw [h1];exact ⟨h2,hc⟩
end
end Ro
namespace Ro
open Go.RowKit So Dsk Sto Trm
def Dx (w:World) (fv:Value) (td:Nat) (W:World):Prop:=∃a n c A,Bd A 5000/\Ms w w.heap.size fv (.slice none 0 0) [(td,.cells #[.slice a n c,.int .i64 A.c,.bool A.a,.int .i64 A.l,.bool A.x] 24)] [(.slice a n c,A.f)] [] W
theorem plays14 (g:Pst) (w:World) (hg:g.Ok w):
 Calls Tryz.prog 4 #[g.val] w fun e w'=>e= .returned (.bool true)/\Below w.heap.size w w':=by
 have HG:=zid hg;have AW:=zid fun W:World=>zis W;have CD:=zid fun (W:World) (h:g.Ok W)=>zcH g W h;have H0:=zid (Hv.start (w:=w) |>.al #[.int .u8 g.q,.slice g.pa g.pn g.pc,.slice g.ka g.kn g.kc,.int .u8 g.fi,.int .u16 g.ps,.int .u8 g.tu,.int .u8 g.fu,.bool g.fd] 39);clear hg;unfold Pst.val at CD ⊢
 go_enter Tryz.func4,Tryz.ntmps4
 go_upto_region 1 with (fail);generalize w.alloc _=w0 at H0 ⊢;generalize w.heap.size=tp at H0 ⊢;obtain ⟨p0,p1,p2,p3,p4,p5,p6,p7⟩:=zcO (H0.out.at_ (t:=tp) mcs);go_wp2_with fail;refine (CD.out _ (HG.out.keep H0.out.w)).mono ?_;rintro e w1 ⟨a1,n1,c1,a2,n2,c2,S,a3,n3,c3,D,ok,rfl,b1,hok⟩;have H1:=zid (H0.out.keep b1);clear p0 p1 p2 p3 p4 p5 p6 p7 H0 CD b1;unfold zag zac;dsimp only;go_upto_region 2 with (fail);have B2:=zid (zdR w1 (.cells #[.slice a1 n1 c1,.int .i64 S.d.c,.bool S.d.a,.int .i64 S.d.l,.bool S.d.x,.int .i64 S.v,.slice a2 n2 c2,.int .i64 S.x,.int .i64 S.s,.int .i64 S.z,.int .u32 S.c] 30) (.cells #[.slice a3 n3 c3,.int .i64 D.c,.bool D.a,.int .i64 D.l,.bool D.x] 24))
 cases ok with
 | false=>
  clear hok;generalize World.alloc (World.alloc w1 _) _=w2 at B2 ⊢;have H2:=zid (H1.out.keep B2.out);clear B2 H1;go_wp2_with fail;refine (AW.out _).mono ?_;rintro e w3 ⟨rfl,b3⟩;have L3:=zid (H2.out.keep b3);clear b3;go_wp2_with fail;go_ret;exact ⟨rfl,L3.out.w⟩
 | true=>
  obtain ⟨⟨G,hSe,hl,hkl⟩,hD,hf,hs,hd⟩:=hok rfl;clear hok;have M:=((Sto.Ms.start (gv:= .slice none 0 0) (lg:=[]) hd (IsL.nil w1 none 0)).alloc #[.slice a1 n1 c1,.int .i64 S.d.c,.bool S.d.a,.int .i64 S.d.l,.bool S.d.x,.int .i64 S.v,.slice a2 n2 c2,.int .i64 S.x,.int .i64 S.s,.int .i64 S.z,.int .u32 S.c] 30).alloc #[.slice a3 n3 c3,.int .i64 D.c,.bool D.a,.int .i64 D.l,.bool D.x] 24;rw [World.size_alloc] at M;have M2:=zid (M.sub (cs':=[(w1.heap.size+1,.cells #[.slice a3 n3 c3,.int .i64 D.c,.bool D.a,.int .i64 D.l,.bool D.x] 24)]) (fun p hp=>by obtain rfl:=List.mem_singleton.1 hp;exact mcs) (fun _ h=>h) (gs':=[]) (fun _ h=>absurd h List.not_mem_nil))
  have hBD:Bd D 4101:=by rw [hD];exact zcb G.d _
  have HBD:=zid hBD;have hpl:tp<w1.heap.size:=(Array.getElem?_eq_some_iff.1 (H1.out.at_ (t:=tp) mcs)).1;clear M hf hs hd hSe hl hkl G hD hBD B2;generalize World.alloc (World.alloc w1 _) _=w2 at M2 ⊢;generalize w1.heap.size+1=td at M2 ⊢;have P2:=hkeep (H1.out.at_ (t:=tp) mcs) M2.out.w;obtain ⟨p0,p1,p2,p3,p4,p5,p6,p7⟩:=zcO P2;clear P2;obtain ⟨fd,hfd⟩:∃b,g.fd=b:=⟨_,rfl⟩;rw [hfd] at p7;clear hfd
  go_upto_if 22 with (fail)
  go_cut [] (fun wc=>Dx w1 (.slice a3 n3 c3) td wc)
  case first=>
   clear AW
   cases fd
   case false=>
    go_wp2_with fail;go_meet
    case rel=>exact ⟨a3,n3,c3,D,HBD.out.mono (by decide),M2.out⟩
   case true=>
    go_upto_region 5 with (fail);obtain ⟨d0,d1,d2,d3,d4⟩:=zaa (M2.out.at_ (t:=td) mcs);go_wp2_with fail;obtain ⟨kk,hkk⟩:∃kk,wrap64 (g.fu.tmod 8)=kk:=⟨_,rfl⟩;rw [hkk]
    have hkb:kk<=9223372036854775807:=by rw [<-hkk];unfold wrap64;omega
    have A1:=fun (W:World) (h:IsL FL W (.slice a3 n3 c3) D.f)=>rarm_val (.slice a3 n3 c3) D kk W h;have hBA:=bd_arm HBD.out hkb;have hAf:(Dp.arm D kk).f=D.f:=rfl;obtain ⟨A,hA⟩:∃A,Dp.arm D kk=A:=⟨_,rfl⟩;rw [hA] at A1 hBA hAf;unfold zac at A1;replace A1:=zid A1;have HBA:=zid hBA;have HAF:=zid hAf;clear hkb hkk hA hBA hAf;refine (A1.out _ (M2.out.fl (v:= .slice a3 n3 c3) mcs)).mono ?_;rintro e w5 ⟨rfl,b5⟩;have M5:=zid (M2.out.keep b5);clear b5 M2 A1 d0 d1 d2 d3 d4 p0 p1 p2 p3 p4 p5 p6 p7;obtain ⟨z0,z1,z2,z3,z4⟩:=zaa (M5.out.at_ (t:=td) mcs);have zf:=zah (M5.out.at_ (t:=td) mcs);go_wp2_with fail;obtain ⟨Z,hZ,mZ⟩:=M5.out.lay5 (t:=td) (cs':=[(td,.cells #[.slice a3 n3 c3,.int .i64 A.c,.bool A.a,.int .i64 A.l,.bool A.x] 24)]) mcs (.slice a3 n3 c3) (.int .i64 A.c) (.bool A.a) (.int .i64 A.l) (.bool A.x) (fun p hp=> .inl (List.mem_singleton.1 hp));rw [hZ];go_meet
    case rel=>exact ⟨a3,n3,c3,A,HBA.out.mono (by decide),by rw [HAF.out];exact mZ⟩
  case rest=>
   obtain ⟨a,n,c,A,hBA,hM⟩:=hcut;have M5:=zid hM;have HBA:=zid hBA;clear hM hBA M2 HBD p0 p1 p2 p3 p4 p5 p6 p7;obtain ⟨p0,p1,p2,p3,p4,p5,p6,p7⟩:=zcO (hkeep (H1.out.at_ (t:=tp) mcs) M5.out.w);obtain ⟨z0,z1,z2,z3,z4⟩:=zaa (M5.out.at_ (t:=td) mcs);have zf:=zah (M5.out.at_ (t:=td) mcs);generalize wc=w5 at*;go_upto_region 6 with (fail);obtain ⟨bb,hbb⟩:∃bb,decide ((0:Int)<(n:Int)/\(0:Int)<g.tu)=bb:=⟨_,rfl⟩
   go_cut [37] (fun v wc=>v= .bool bb/\wc=w5)
   case first=>
    clear AW H1 M5 HBA
    by_cases h1:(0:Int)<(n:Int)
    · have e1:decide ((0:Int)<(n:Int))=true:=decide_eq_true h1
      have e2:bb=decide ((0:Int)<g.tu):=by rw [<-hbb];exact decide_eq_decide.2 ⟨fun h=>h.2,fun h=>⟨h1,h⟩⟩
      subst e2;clear hbb;go_wp2_with fail;go_meet
      case rel=>exact ⟨by simp,rfl⟩
    · have e1:decide ((0:Int)<(n:Int))=false:=decide_eq_false h1
      have e2:bb=false:=by rw [<-hbb];exact decide_eq_false fun h=>h1 h.1
      subst e2;clear hbb;go_wp2_with fail;go_meet
      case rel=>exact ⟨by simp,rfl⟩
   case rest=>
   obtain ⟨rfl,rfl⟩:=hcut
   go_upto_if 37 with (fail)
   go_cut [] (fun wc=>Dx w1 (.slice a3 n3 c3) td wc)
   case first=>
    clear AW
    cases bb
    case false=>
     go_wp2_with fail;go_meet
     case rel=>exact ⟨a,n,c,A,HBA.out,M5.out⟩
    case true=>
     obtain ⟨hn0,htu⟩:=of_decide_eq_true hbb;clear hbb;have hfi:=HG.out.fi;have hps:=HG.out.ps;have htu2:=HG.out.tu.2;have hv:=M5.out.fl (v:= .slice a n c) mcs;have hnl:n=A.f.length:=hv.len.1
     have hn5:n<=5000:=by have:=HBA.out.n;omega
     have hblk:∃b off,a=some ⟨b,off,none⟩:=by
      obtain ⟨a',c',e,_,_,h3⟩:=hv
      injection e with e1 e2 e3
      rcases h3 with h3 | ⟨b,off,h3,_⟩
      · rw [h3] at e2;exact absurd e2 (by show ¬n=0;omega)
      · exact ⟨b,off,by rw [e1,h3]⟩
     obtain ⟨b,off,rfl⟩:=hblk;have hlt5:td<wc.heap.size:=M5.out.lt mcs;obtain ⟨i0,hi0,hz0,hz1,hz2⟩:=info_parts zcD;have HC:Hid (∀j u,(FL.vals A.f)[j]?=some u->(wc.alloc (.cells #[] 45)).cell? ((⟨b,off,none⟩:Addr).add j)=some u):=fun j u hj=>Lib.cell?_alloc_some _ (IsL.news hv j u hj);have HV1:=zid (FL.vals_cells A.f);have HVL:=zid (show (FL.vals A.f).length=n*3 by rw [vals_len,hnl])
     have HF:Hid (∀v' w3,w3.ownsRow wc.heap.size 45 3 v' (0+n) ([]++FL.vals A.f)->(wc.alloc (.cells #[] 45)).grownBy w3 (some wc.heap.size)->∃g7 cap7,v'= .slice (some ⟨g7,0,none⟩) n cap7/\OwnL FL w3 wc.heap.size v' A.f/\Below wc.heap.size wc w3):=by
      intro v' w3 h hg;rw [Nat.zero_add,List.nil_append] at h
      have ho:OwnL FL w3 wc.heap.size v' A.f:=by rw [hnl] at h;exact h
      obtain ⟨g7,cap7,cur7,e,_⟩:=zbi ho (by omega)
      exact ⟨g7,cap7,by rw [e, <-hnl],ho,(((Below.refl _ wc).alloc (Nat.le_refl _) _).grown hg (by simp) (fun k hk=>by injection hk with hk;omega))⟩
     have hown:=zid (World.ownsRow_made (e:=45) (size:=3) wc #[] 0 (Nat.le_refl _) (Nat.zero_le _) (by simp));have HNL:=zid hnl;clear hv hnl;generalize FL.vals A.f=xs at*;go_upto_region 7 with (fail)
     go_upto_region 8 with (at_builtin;refine wpList_append_own _ rfl _ _ 22 rfl wc.heap.size 45 i0 (.agg #[.string ByteArray.empty,.string ByteArray.empty,.int .i64 0]) 3 40 Tryz.underlying22 hi0 hz0 hz1 hz2 rfl (by decide) _ _ _ rfl hown.out ⟨b,off,none⟩ n c xs rfl HVL.out HC.out HV1.out (by unfold maxLen;omega) (by omega) (by simp) ?_;intro v' w7 hown' hgrow3 hnil3;obtain ⟨g7,cap7,rfl,ho7,b7⟩:=HF.out v' w7 hown' hgrow3;clear hown' hgrow3 hnil3;have ht7:=zaa (hkeep (M5.out.at_ (t:=td) mcs) b7);have hz7:=zah (hkeep (M5.out.at_ (t:=td) mcs) b7);obtain ⟨t0,t1,t2,t3,t4⟩:=ht7;have T7:=zid (Tw.new M5.out hlt5 b7 ho7 (by rw [<-HNL.out];unfold maxLen;omega) (zax HBA.out (by decide)).flb);clear ho7 b7)
     clear HC HV1 HVL HF hown hi0 hz0 hz1 hz2 p0 p1 p2 p3 p4 p5 p6 p7 z0 z1 z2 z3 z4 zf;generalize World.setCell w7 _ _=w8 at T7 ⊢;clear t0 t1 t2 t3 t4 hz7;have hp8:=zcO (hkeep (H1.out.at_ (t:=tp) mcs) T7.out.m.w);obtain ⟨p0,p1,p2,p3,p4,p5,p6,p7⟩:=hp8;obtain ⟨z0,z1,z2,z3,z4⟩:=zaa (T7.out.m.at_ (t:=td) mcs);have zf:=zah (T7.out.m.at_ (t:=td) mcs)
     have hnz:(n:Int)≠0:=by omega
     obtain ⟨fi,hfiN⟩:∃fi:Nat,g.fi=(fi:Int):=⟨g.fi.toNat,by omega⟩;rw [hfiN] at p3
     have hfi255:fi<=255:=by omega
     obtain ⟨K,hK⟩:∃K,fi%n=K:=⟨_,rfl⟩
     have hKn:K<n:=by rw [<-hK];exact Nat.mod_lt _ (by omega)
     have hK3:(fi:Int)%(n:Int)=(K:Int):=by rw [<-hK];rfl
     clear hfiN hfi hK;go_upto_region 9 with (fail)
     try rw [hK3]
     clear hK3 hnz;have c1:=(at3 (T7.out.m.fl (v:= .slice (some ⟨g7,0,none⟩) n cap7) mcs) hKn).2.1;simp only [Nat.zero_add] at c1
     have hfb:=(zax HBA.out (by decide)).flb _ (show A.f.getD K Dsk.zero∈A.f by
      rw [show A.f.getD K Dsk.zero=A.f[K]'(by rw [<-HNL.out];exact hKn) by simp [List.getD_eq_getElem?_getD,show K<A.f.length by rw [<-HNL.out];exact hKn]]
      exact List.getElem_mem _)
     have hsz:=hfb.2.1;obtain ⟨dd,hdd⟩:∃dd,(A.f.getD K Dsk.zero).d=dd:=⟨_,rfl⟩;rw [hdd] at c1 hsz;have HDD:=zid hdd;obtain ⟨cb,W9,hcv,hBA9,b9,hl9⟩:=bytes_of w8 dd;have HKN:=zid hKn
     have hKi:(K:Int)<(n:Int):=by omega
     clear hdd hfb;go_upto_region 10 with (fail);have T9:=zid (T7.out.keep b9);have HB9:=zid hBA9;have HBB:=zid b9;clear hcv c1 z0 z1 z2 z3 z4 zf p0 p1 p2 p3 p4 p5 p6 p7 b9 hBA9;obtain ⟨p0,p1,p2,p3,p4,p5,p6,p7⟩:=zcO (hkeep (H1.out.at_ (t:=tp) mcs) T9.out.m.w);obtain ⟨B9,hB9⟩:∃B9,w8.heap.size=B9:=⟨_,rfl⟩;rw [hB9] at HB9 hl9 HBB ⊢;have HB9E:=zid hB9;clear hB9
     by_cases hsz0:0<dd.size
     · obtain ⟨ps,hpsN⟩:∃ps:Nat,g.ps=(ps:Int):=⟨g.ps.toNat,by omega⟩
       obtain ⟨x,hxN⟩:∃x:Nat,g.tu=(x:Int):=⟨g.tu.toNat,by omega⟩
       have hx256:x<256:=by omega
       have hps2:ps<=65535:=by omega
       rw [hpsN] at p4;rw [hxN] at p5;clear hpsN hxN hps htu2 htu;obtain ⟨J,hJ⟩:∃J,ps%dd.size=J:=⟨_,rfl⟩
       have hJs:J<dd.size:=by rw [<-hJ];exact Nat.mod_lt _ hsz0
       have hJ3:(ps:Int)%(dd.size:Int)=(J:Int):=by rw [<-hJ];rfl
       have hJl:J<dd.data.toList.length:=by simpa using hJs
       obtain ⟨hc1,hf1⟩:=HB9.out J hJl;have hxb:=xor_b dd.data.toList[J] hx256;have hset:=HB9.out.set hJl (UInt8.ofNat (dd.data.toList[J].toNat^^^x))
       have hj1:(J:Int)<(dd.size:Int):=by omega
       have hz1:(0:Int)<(dd.size:Int):=by omega
       have hnz':(dd.size:Int)≠0:=by omega
       have HSET:=zid hset;clear hset hJ;generalize UInt8.ofNat (dd.data.toList[J].toNat^^^x)=cc at hxb HSET;generalize dd.data.toList[J]=c0 at hxb hc1;go_upto_region 11 with (fail);clear p0 p1 p2 p3 p6 p7
       go_region
       have hB10:Below w8.heap.size w8 (W9.setCell ⟨B9,J,none⟩ (.int .u8 (cc.toNat:Int))).drew:=by
        rw [HB9E.out];exact (HBB.out.setCell (p:=⟨B9,J,none⟩) (Nat.le_refl _) _).drew
       have T10:=zid (T7.out.keep hB10);have hba:=HSET.out.below (Below.refl (W9.setCell ⟨B9,J,none⟩ (.int .u8 (cc.toNat:Int))).heap.size _).drew (by rw [World.size_setCell];exact hl9);have hcv:=hba.conv cb
       have hlen:(dd.data.toList.set J cc).length=dd.size:=by rw [List.length_set];simp
       rw [hlen] at hcv;clear hba hB10 p4 p5 hJ3 hxb hc1 hf1 T9 HB9 HSET;generalize World.drew _=w10 at T10 hcv ⊢;obtain ⟨d',hd'⟩:∃d':ByteArray,(⟨(dd.data.toList.set J cc).toArray⟩:ByteArray)=d':=⟨_,rfl⟩
       have hds:d'.size=dd.size:=by rw [<-hd', <-hlen];exact zam _
       rw [hd'] at hcv;have HDS:=zid hds;clear hlen hd' hds;obtain ⟨z0,z1,z2,z3,z4⟩:=zaa (T10.out.m.at_ (t:=td) mcs);have c1:=(at3 (T10.out.m.fl (v:= .slice (some ⟨g7,0,none⟩) n cap7) mcs) HKN.out).2.1;simp only [Nat.zero_add] at c1
       have fz:∀o,w10.frozen? ⟨g7,o,none⟩=false:=by
        obtain ⟨g',cap',cur,e,_,h2,_⟩:=zbi T10.out.o (by rw [<-HNL.out];omega)
        injection e with e1
        injection e1 with e1
        injection e1 with e1
        subst e1;exact fun o=>Lib.frozen_of_heap h2 o
       go_wp2_with fail;go_meet
       case rel=>exact ⟨_,_,_,{A with f:=zdj A.f K d'},bd_turn HBA.out (by rw [<-HNL.out];exact HKN.out) (by rw [HDD.out];exact HDS.out),(T10.out.turn HKN.out (by rw [HDS.out];exact hsz) (zax HBA.out (by decide)).flb).m⟩
     · clear p0 p1 p2 p3 p4 p5 p6 p7 HB9 hl9 HBB HB9E T7
       obtain ⟨i0,hi0,hz0,hz1,hz2⟩:=info_parts zcD
       have T9d:=zid (T9.out.keep (Below.refl _ _).drew);obtain ⟨jj,hjj⟩:∃jj,K+1=jj:=⟨_,rfl⟩
       have hjn:jj<=n:=by have:=HKN.out;omega
       obtain ⟨hnc,AD,hA,hsrc⟩:n<=cap7/\∃AD:Addr,(if cap7=jj then some (⟨g7,0,none⟩:Addr) else some ⟨g7,jj*3,none⟩)=some AD/\Hid (∀t u,(FL.vals (A.f.drop jj))[t]?=some u->W9.drew.cell? (AD.add t)=some u):=by
        obtain ⟨g',cap',cur,e,_,h2,h3,h4,h5,h6⟩:=zbi T9d.out.o (by rw [<-HNL.out];omega)
        injection e with e1 e2 e3
        injection e1 with e1
        injection e1 with e1
        subst e1 e3;have hl:=vals_len (A.f.drop jj);rw [List.length_drop, <-HNL.out] at hl;refine ⟨by rw [HNL.out];exact h3,?_⟩
        by_cases h:cap7=jj
        · refine ⟨⟨g7,0,none⟩,by simp [h],fun t u hu=>?_⟩
          have h9:n<=cap7:=by rw [HNL.out];exact h3
          have h0:(FL.vals (A.f.drop jj)).length=0:=by rw [hl];omega
          rw [List.length_eq_zero_iff.1 h0] at hu;simp at hu
        · refine ⟨⟨g7,jj*3,none⟩,by simp [h],fun t u hu=>?_⟩
          rw [zak]
          rw [<-vals_drop] at hu;exact zdz h2 h6 t u hu
       have HOK:Hid (W9.drew.ownsRow (td+1) 45 3 (.slice (some ⟨g7,0,none⟩) K cap7) K (FL.vals (A.f.take K))):=by
        obtain ⟨g',cap',cur,e,h1,h2,h3,h4,h5,h6⟩:=zbi T9d.out.o (by rw [<-HNL.out];omega)
        injection e with e1 e2 e3
        injection e1 with e1
        injection e1 with e1
        subst e1 e3
        have hk:(A.f.take K).length=K:=by rw [List.length_take, <-HNL.out];have:=HKN.out;omega
        have:=zer (l:=A.f.take K) h1 h2 (by rw [hk];omega) h4 h5 (by rw [hk, <-vals_take, <-h6,List.take_take, <-HNL.out];congr 1;have:=HKN.out;omega)
        rwa [show (.slice (some ⟨g7,0,none⟩) (A.f.take K).length cap7:Value)= .slice (some ⟨g7,0,none⟩) K cap7 by rw [hk],OwnL,hk] at this
       have HLN:Hid ((FL.vals (A.f.drop jj)).length=(n-jj)*3):=by
        have hl:=vals_len (A.f.drop jj)
        rwa [List.length_drop, <-HNL.out] at hl
       have HVD:=zid (FL.vals_cells (A.f.drop jj));have HBS:=zid (show td+1<=W9.drew.heap.size from T9d.out.m.lt mcs)
       have HX:Hid (∀v' w',w'.ownsRow (td+1) 45 3 v' (K+(n-jj)) (FL.vals (A.f.take K)++FL.vals (A.f.drop jj))->W9.drew.grownBy w' (some g7)->∃av nv cv,v'= .slice av nv cv/\Hid (Dx w1 (.slice a3 n3 c3) td (w'.setCell ⟨td,0,none⟩ v'))/\w'.cell? ⟨td,0,none⟩=some (.slice (some ⟨g7,0,none⟩) n cap7)/\∀o,w'.frozen? ⟨td,o,none⟩=false):=by
        intro v' w' h hgr
        have hk:(A.f.take K).length=K:=by rw [List.length_take, <-HNL.out];have:=HKN.out;omega
        have ho:OwnL FL w' (td+1) v' (A.f.take K++A.f.drop jj):=OwnL.more (Y:=FL) (m:=n-jj) (by rw [hk];exact h) rfl (by rw [List.length_drop,HNL.out]);have hbg:=bd_gone HBA.out K;rw [hjj] at hbg;have hn5000:(A.f.take K++A.f.drop jj).length<=5000:=hbg.n;obtain ⟨M,hc⟩:=T9d.out.gone hgr ho (by unfold maxLen;omega) (zax hbg (by decide)).flb;obtain ⟨av,cv,rfl,_⟩:=ho.is (by unfold maxLen;omega) (zax hbg (by decide)).flb
        exact ⟨av,_,cv,rfl,⟨av,_,cv,{A with f:=A.f.take K++A.f.drop jj},hbg,M⟩,(zaa hc).1,zah hc⟩
       have hji:(K:Int)+1=(jj:Int):=by omega
       have hkc:K<=cap7:=by have:=HKN.out;omega
       have hjc:jj<=cap7:=by omega
       have hc5:n+n<=10000:=by omega
       have mixed:Tryz.prog.follows Departure.mixedOrders=true:=by kernel_rfl
       have hwj:IntKind.i64.wrap (jj:Int)=(jj:Int):=IntWalk.i64_in _ ⟨by omega,by omega⟩
       have hjn':(jj:Int)<=(n:Int):=by omega
       obtain ⟨z0,z1,z2,z3,z4⟩:=zaa (T9.out.m.at_ (t:=td) mcs);go_upto_region 13 with (fail);clear HDD hsz hsz0 HKN HNL T9 T9d HBA
       go_region_law_o (refine zav rfl (.tmp 90) (.tmp 95) 22 rfl (td+1) 45 i0 (.agg #[.string ByteArray.empty,.string ByteArray.empty,.int .i64 0]) 3 40 Tryz.underlying22 hi0 hz0 hz1 hz2 rfl (by decide) (.slice (some ⟨g7,0,none⟩) K cap7) K (FL.vals (A.f.take K)) (by simp [Act.eval,Act.put]) HOK.out AD (n-jj) (cap7-jj) (FL.vals (A.f.drop jj)) (by simp [Act.eval,Act.put]) HLN.out hsrc.out HVD.out (by unfold maxLen;omega) (by omega) HBS.out ?_;intro v' w10 hown' hg10;obtain ⟨av,nv,cv,rfl,HM,hcl,hfz⟩:=HX.out v' w10 hown' hg10;clear hown' hg10)
       all_goals
        go_wp2_with fail
        go_meet
        case rel=>exact HM.out
   case rest=>
    clear M5 HBA p0 p1 p2 p3 p4 p5 p6 p7 z0 z1 z2 z3 z4 zf A;obtain ⟨a,n,c,A,hBA,hM⟩:=hcut;have OP:=fun (W:World) (h:IsL FL W (.slice a n c) A.f)=>zbd a n c A W _ h hBA (by decide);have RO:=fun (W:World) (h:IsL FL W (.slice a n c) A.f)=>zhU a n c A W _ h hBA (by decide);obtain ⟨⟨X,E⟩,hX⟩:∃R,Lg.openT A=R:=⟨_,rfl⟩;rw [hX] at OP RO;unfold zac at OP RO;replace OP:=zid OP;replace RO:=zid RO;have SM:=fun (a a' b b':Option Addr) (n c n' c' m d m' d':Nat) (W:World) (h1:IsL FL W (.slice a n c) X.d.f) (h2:IsL Rts.SL W (.slice a' n' c') X.g) (h3:IsL FL W (.slice b m d) X.d.f) (h4:IsL Rts.SL W (.slice b' m' d') X.g)=>zef (.slice a n c) (.slice a' n' c') (.slice b m d) (.slice b' m' d') X W h1 h2 h3 h4;unfold zag at SM;replace SM:=zid SM;have K0:=H1.out.keep hM.w;have H6:=zid (show Hv w [(td,.cells #[.slice a n c,.int .i64 A.c,.bool A.a,.int .i64 A.l,.bool A.x] 24)] [(.slice a n c,A.f)] [] _ from ⟨fun p hp=>(hM.c p hp).2,fun p hp=>(hM.f p hp).1,fun _ h=>absurd h List.not_mem_nil,K0.w⟩);clear hX hBA hM K0 H1;generalize wc=w6 at H6 ⊢;obtain ⟨d0,d1,d2,d3,d4⟩:=zaa (H6.out.at_ (t:=td) mcs);go_wp2_with fail;refine (OP.out _ (H6.out.fl mcs)).mono ?_;rintro e w7 ⟨a4,n4,c4,a5,n5,c5,rfl,ks⟩;have H7:=zid ((H6.out.st ks).al #[.slice a4 n4 c4,.int .i64 X.d.c,.bool X.d.a,.int .i64 X.d.l,.bool X.d.x,.int .i64 X.v,.slice a5 n5 c5,.int .i64 X.x,.int .i64 X.s,.int .i64 X.z,.int .u32 X.c] 30);clear ks d0 d1 d2 d3 d4 H6 OP;unfold zag;dsimp only;go_upto_region 15 with (fail);generalize w7.alloc _=w8 at H7 ⊢;generalize w7.heap.size=tx at H7 ⊢;obtain ⟨d0,d1,d2,d3,d4⟩:=zaa (H7.out.at_ (t:=td) (mcm mcs));go_wp2_with fail;refine (RO.out _ (H7.out.fl (v:= .slice a n c) (mcm mcs))).mono ?_;rintro e w9 ⟨a6,n6,c6,a7,n7,c7,rfl,ks⟩;have H8:=zid ((H7.out.st ks).al #[.slice a6 n6 c6,.int .i64 X.d.c,.bool X.d.a,.int .i64 X.d.l,.bool X.d.x,.int .i64 X.v,.slice a7 n7 c7,.int .i64 X.x,.int .i64 X.s,.int .i64 X.z,.int .u32 X.c] 30);clear ks d0 d1 d2 d3 d4 H7 RO;unfold zag;dsimp only;go_upto_region 16 with (fail);generalize w9.alloc _=w10 at H8 ⊢;generalize w9.heap.size=ty at H8 ⊢;go_wp2_with fail;refine (AW.out _).mono ?_;rintro e w11 ⟨rfl,b11⟩;have H9:=zid (H8.out.keep b11);clear b11 H8 AW;obtain ⟨⟨x0,x1,x2,x3,x4⟩,x5,x6,x7,x8,x9,x10⟩:=zab (H9.out.at_ (t:=tx) (mcm mcs));obtain ⟨⟨y0,y1,y2,y3,y4⟩,y5,y6,y7,y8,y9,y10⟩:=zab (H9.out.at_ (t:=ty) mcs);go_wp2_with fail;refine (SM.out _ _ _ _ _ _ _ _ _ _ _ _ _ (H9.out.fl (v:= .slice a4 n4 c4) (mcm mcs)) (H9.out.sl (v:= .slice a5 n5 c5) (mcm mcs)) (H9.out.fl (v:= .slice a6 n6 c6) mcs) (H9.out.sl (v:= .slice a7 n7 c7) mcs)).mono ?_;rintro e w12 ⟨rfl,b12⟩;have H10:=zid (H9.out.keep b12);clear b12 H9 SM x0 x1 x2 x3 x4 x5 x6 x7 x8 x9 x10 y0 y1 y2 y3 y4 y5 y6 y7 y8 y9 y10;go_wp2_with fail;go_ret;exact ⟨by first | rfl | simp,H10.out.w⟩
end Ro
end Go.Proofs.YtooipogbmfkeeaaGreat

/-
  Parts of what the laws of this seat stand on:InsPlace,TrmWo,InsFree.
-/
import Derived.Test.YtgmppfpllogdcaaGreatBi1
import Derived.Deep.DeepCutAuto
import Derived.Laws.EntriesVeiled
import Derived.RangeFuncBox
import Derived.RangeFuncNested
import Derived.Test.YtgmppfpllogdcaaGreatBi13
import Derived.Test.YtgmppfpllogdcaaGreatBi24
import Derived.Test.YtgmppfpllogdcaaGreatBi25
import Derived.Test.YtgmppfpllogdcaaGreatBi29
import Derived.Test.YtgmppfpllogdcaaGreatBi39
import Derived.Test.YtgmppfpllogdcaaGreatBi42
import Derived.Test.YtgmppfpllogdcaaGreatBi8
set_option maxRecDepth 100000
set_option maxHeartbeats 6400000
namespace Go.Proofs.YtgmppfpllogdcaaGreat
namespace Ins
open Go.RowKit So Dsk Rts Sto
def Chs (W:World) (l:List ((Nat×Array Value)×(Dp.Dk->Dp.Dk×Int))):Prop:=∀p∈l,Chg W p.1 p.2
theorem Chs.keep {W W':World} {l:List ((Nat×Array Value)×(Dp.Dk->Dp.Dk×Int))} (h:Chs W l) (b:Below W.heap.size W W'):Chs W' l:=fun p hp=>(h p hp).keep b
theorem Chs.add {W W':World} {l:List ((Nat×Array Value)×(Dp.Dk->Dp.Dk×Int))} {x:Nat×Array Value} {g:Dp.Dk->Dp.Dk×Int} (h:Chs W l) (b:Below W.heap.size W W') (k:Chg W' x g):Chs W' ((x,g)::l):=fun p hp=>by
 rcases List.mem_cons.1 hp with rfl | hp
 · exact k
 · exact h.keep b p hp
theorem tl_new (W:World) (fs:List El) (hm:fs.length<=1000):IsL TL (W.alloc (.cells (TL.vals fs).toArray 109)) (.slice (some ⟨W.heap.size,0,none⟩) fs.length fs.length) fs:=by
 refine ⟨_,_,rfl,⟨by unfold maxLen;omega,Nat.le_refl _⟩,fun _ _=>trivial,.inr ⟨W.heap.size,0,rfl,fun j u hj=>?_⟩⟩;have:=zar W W.heap.size (TL.vals fs) 109 rfl j u hj
 rwa [zak] at this
theorem five_sps {W:World} {x1 x2 x3 x4 x5 x6 x7:Nat×Array Value} {g1 g2 g3 g4 g5 g6 g7:Dp.Dk->Dp.Dk×Int} (h:Chs W [(x7,g7),(x6,g6),(x5,g5),(x4,g4),(x3,g3),(x2,g2),(x1,g1)]):
 Sps W [(x1,some x2),(x3,none),(x4,none),(x5,some x6),(x7,none)] [⟨g1,some g2⟩,⟨g3,none⟩,⟨g4,none⟩,⟨g5,some g6⟩,⟨g7,none⟩]:=by
 have c1:Chg W x1 g1:=h (x1,g1) (by simp);have c2:Chg W x2 g2:=h (x2,g2) (by simp);have c3:Chg W x3 g3:=h (x3,g3) (by simp);have c4:Chg W x4 g4:=h (x4,g4) (by simp);have c5:Chg W x5 g5:=h (x5,g5) (by simp);have c6:Chg W x6 g6:=h (x6,g6) (by simp);have c7:Chg W x7 g7:=h (x7,g7) (by simp);refine ⟨rfl,fun i hi=>?_⟩
 match i,hi with
 | 0,_=>exact ⟨c1,c2⟩
 | 1,_=>exact ⟨c3,trivial⟩
 | 2,_=>exact ⟨c4,trivial⟩
 | 3,_=>exact ⟨c5,c6⟩
 | 4,_=>exact ⟨c7,trivial⟩
theorem zhP (fv:Value) (ga:Option Addr) (gn gc:Nat) (X:St) (s:ByteArray) (w:World) (hg:IsL Rts.SL w (.slice ga gn gc) X.g) (hn:X.g≠[]) (hB:Stb X) (hs:s.size<=3000):
 Calls Tryz.prog 29 #[zag fv (.slice ga gn gc) X,.string s] w fun e w'=>∃a n c fs,e= .returned (.slice a n c)/\IsL TL w' (.slice a n c) fs/\Sps w' fs (zdP (Lg.snapN (floor X)) (segN (floor X)) s (man X))/\Below w.heap.size w w':=by
 have hfl:0<=floor X:=by
  unfold floor
  cases h:X.g with
  | nil=>exact absurd h hn
  | cons g t=>exact (hB.g g (by rw [h];exact mcs)).1.1
 have MB:Mfs.MnB (man X):=⟨⟨by have:=hB.v;show _<=X.v;omega,by have:=hB.v;show X.v<=_;omega⟩,⟨by have:=hB.z;show _<=X.z;omega,by have:=hB.z;show X.z<=_;omega⟩,hB.c⟩;have FLO:=fun (W:World) (h:IsL Rts.SL W (.slice ga gn gc) X.g)=>zex fv (.slice ga gn gc) X W h hn;have SN:=zid (show ∀W:World,Calls Tryz.prog 62 #[.int .i64 (floor X)] W fun e w'=>e= .returned (.string (Lg.snapN (floor X)))/\Below W.heap.size W w' from fun W=>zim (floor X) W (by omega));have SGN:=zid (show ∀W:World,Calls Tryz.prog 63 #[.int .i64 (floor X)] W fun e w'=>e= .returned (.string (segN (floor X)))/\Below W.heap.size W w' from fun W=>zkk (floor X) W (by omega))
 have hsn:(Lg.snapN (floor X)).size<=3000:=by have:(Lg.snapN (floor X)).size<=14:=Np.name_short 116 _;omega
 have hsg:(segN (floor X)).size<=3000:=by have:(segN (floor X)).size<=14:=Np.name_short 115 _;omega
 have RM:=fun (W:World) (h:IsL Rts.SL W (.slice ga gn gc) X.g)=>zk6 fv (.slice ga gn gc) X W h hB;have RS:=zid fun (W:World) (am:Option Addr) (nm cm:Nat) (hm:IsL Mfs.IL W (.slice am nm cm) (man X).l)=>zhh am nm cm (man X) W MB hm;have CN:=zid fun W:World=>created_any (Lg.snapN (floor X)) W hsn;have DN:=zid fun W:World=>zfe (Lg.snapN (floor X)) W;have AN:=zid fun W:World=>appended_any (Lg.snapN (floor X)) s W hs;have YN:=zid fun W:World=>synced_any (Lg.snapN (floor X)) W;have CM:=zid fun W:World=>created_any (segN (floor X)) W hsg;have DM:=zid fun W:World=>zfe (segN (floor X)) W;have HG:=zid hg;have Q0:=zid (heap_alloc_new w (.cells #[fv,.int .i64 X.d.c,.bool X.d.a,.int .i64 X.d.l,.bool X.d.x,.int .i64 X.v,.slice ga gn gc,.int .i64 X.x,.int .i64 X.s,.int .i64 X.z,.int .u32 X.c] 31));have QB:=zid ((Below.refl w.heap.size w).alloc (Nat.le_refl _) (.cells #[fv,.int .i64 X.d.c,.bool X.d.a,.int .i64 X.d.l,.bool X.d.x,.int .i64 X.v,.slice ga gn gc,.int .i64 X.x,.int .i64 X.s,.int .i64 X.z,.int .u32 X.c] 31));obtain ⟨⟨k0,k1,k2,k3,k4⟩,k5,k6,k7,k8,k9,k10⟩:=zab Q0.out;clear hg hn hB hs MB hsn hsg;unfold zag at FLO RM ⊢;replace FLO:=zid FLO;generalize Lg.snapN (floor X)=n at*;generalize segN (floor X)=m at*;generalize floor X=fl at*;generalize man X=M at*;replace RM:=zid RM
 go_enter Tryz.func29,Tryz.ntmps29
 go_upto_region 1 with (fail);generalize World.alloc w _=w0 at Q0 QB k0 k1 k2 k3 k4 k5 k6 k7 k8 k9 k10 ⊢;go_wp2_with fail;refine (FLO.out _ (HG.out.keep QB.out)).mono ?_;rintro e w1 ⟨rfl,b1⟩;have Q1:=zid (hkeep Q0.out b1);have QB1:=zid (QB.out.trans (b1.mono QB.out.size));clear b1 k0 k1 k2 k3 k4 k5 k6 k7 k8 k9 k10 Q0;go_wp2_with fail;refine (SN.out _).mono ?_;rintro e w2 ⟨rfl,b2⟩;have Q2:=zid (hkeep Q1.out b2);have QB2:=zid (QB1.out.trans (b2.mono QB1.out.size));clear b2 Q1;go_wp2_with fail;refine (SGN.out _).mono ?_;rintro e w3 ⟨rfl,b3⟩;have Q3:=zid (hkeep Q2.out b3);have QB3:=zid (QB2.out.trans (b3.mono QB2.out.size));clear b3 Q2 QB QB1 QB2;go_upto_region 3 with (fail);obtain ⟨⟨k0,k1,k2,k3,k4⟩,k5,k6,k7,k8,k9,k10⟩:=zab Q3.out;have hl0:w.heap.size<w3.heap.size:=(Array.getElem?_eq_some_iff.1 Q3.out).1;have HGW:=zid (HG.out.keep QB3.out);have P0:=zid (show Chs w3 [] from fun _ hp=>absurd hp List.not_mem_nil)
 go_region_held3 (fun W=>(∀b o,b<w3.heap.size->W.cell? ⟨b,o,none⟩=w3.cell? ⟨b,o,none⟩)/\Below w3.heap.size w3 W) (first | with_reducible assumption | with_reducible exact KW.dr _ | with_reducible exact KW.al (by assumption) | with_reducible exact KW.ad (by assumption) | with_reducible exact KW.keep (by assumption) (Below.refl _ _).drew | with_reducible exact KW.keep (by assumption) (by assumption)) (first | (go_at_call 64;have hord:=P4;refine (CM.out _).mono ?_;rintro e w5 ⟨N5,c5,rfl,h5,q5⟩;have s5:=KW.keep (by assumption) q5;have P5:=zid ((by first | exact P4.out | exact P4.out.keep (Below.refl _ _).drew:Chs _ _).add q5 h5)) | (go_at_call 65;have hord:=P5;refine (DM.out _).mono ?_;rintro e w5 ⟨N6,c6,rfl,h6,q5⟩;have s5:=KW.keep (by assumption) q5;have P6:=zid ((by first | exact P5.out | exact P5.out.keep (Below.refl _ _).drew:Chs _ _).add q5 h6)) | (go_at_call 64;refine (CN.out _).mono ?_;rintro e w5 ⟨N1,c1,rfl,h1,q5⟩;have s5:=KW.keep (by assumption) q5;have P1:=zid ((by first | exact P0.out | exact P0.out.keep (Below.refl _ _).drew:Chs _ _).add q5 h1)) | (go_at_call 65;refine (DN.out _).mono ?_;rintro e w5 ⟨N2,c2,rfl,h2,q5⟩;have s5:=KW.keep (by assumption) q5;have P2:=zid ((by first | exact P1.out | exact P1.out.keep (Below.refl _ _).drew:Chs _ _).add q5 h2)) | (go_at_call 66;refine (AN.out _).mono ?_;rintro e w5 ⟨N3,c3,rfl,h3,q5⟩;have s5:=KW.keep (by assumption) q5;have P3:=zid ((by first | exact P2.out | exact P2.out.keep (Below.refl _ _).drew:Chs _ _).add q5 h3)) | (go_at_call 67;refine (YN.out _).mono ?_;rintro e w5 ⟨N4,c4,rfl,h4,q5⟩;have s5:=KW.keep (by assumption) q5;have P4:=zid ((by first | exact P3.out | exact P3.out.keep (Below.refl _ _).drew:Chs _ _).add q5 h4)) | (go_at_call 69;refine (RM.out _ (HGW.out.keep (KW.bel (by assumption)))).mono ?_;rintro e w5 ⟨am,an,ac,rfl,hm,q5⟩;have s5:=KW.keep (by assumption) q5;have HMM:=zid hm;have P66:=zid ((by first | exact P6.out | exact P6.out.keep (Below.refl _ _).drew:Chs _ _).keep q5);clear hm) | (go_at_call 68;refine (RS.out _ _ _ _ (by first | exact HMM.out | exact HMM.out.keep (Below.refl _ _).drew)).mono ?_;rintro e w5 ⟨N7,c7,rfl,h7,q5⟩;have s5:=KW.keep (by assumption) q5;have P7:=zid ((by first | exact P66.out | exact P66.out.keep (Below.refl _ _).drew:Chs _ _).add q5 h7)))
 all_goals
  rename_i hh
  have LB:=zid (QB3.out.trans (hh.2.mono QB3.out.size));have HI:=zid (tl_new w5 [((N1,c1),some (N2,c2)),((N3,c3),none),((N4,c4),none),((N5,c5),some (N6,c6)),((N7,c7),none)] (by show 5<=1000;omega));have HP:=zid ((five_sps P7.out).keep (zbt w5 (.cells #[.func (.func N1) #[] c1,.func (.func N2) #[] c2,.func (.func N3) #[] c3,.nilFunc,.func (.func N4) #[] c4,.nilFunc,.func (.func N5) #[] c5,.func (.func N6) #[] c6,.func (.func N7) #[] c7,.nilFunc] 109)));clear hh k0 k1 k2 k3 k4 k5 k6 k7 k8 k9 k10;go_wp2_with fail;go_ret;exact ⟨_,_,_,_,rfl,HI.out,HP.out,LB.out⟩
end Ins
namespace Trm
open Go.RowKit So Dsk Rts Sto
theorem gone_take {S:St} {p k:Nat} (hp:p<=S.g.length) (hk:k<p):(((S.g.take p).map fun g=>segN g.b).take (k+1))=(((S.g.take p).map fun g=>segN g.b).take k)++[segN (S.g.getD k Rt.zero).b]:=by
 have hl:k<((S.g.take p).map fun g=>segN g.b).length:=by rw [List.length_map,List.length_take];omega
 rw [List.take_succ_eq_append_getElem hl,List.getElem_map,List.getElem_take,zao (by omega)]
end Trm
namespace Ins
open Go.RowKit So Dsk Rts Sto
theorem zly (n:ByteArray) (w:World):Calls Tryz.prog 65 #[.string n] w fun e w'=>∃b,e= .returned (.func (.func 98) #[] #[.pointer (some ⟨b,0,none⟩)])/\Boxed w' b 9 (.string n)/\Below w.heap.size w w':=
 (deleted_any n w).mono fun e w' ⟨h1,h2⟩=>by
  subst h1 h2;exact ⟨_,rfl,heap_alloc_new w _,zbt w _⟩
def delV (b:Nat):El:=((98,#[.pointer (some ⟨b,0,none⟩)]),none)
structure Dls (W:World) (bs:List Nat) (l:List ByteArray):Prop where
 len:bs.length=l.length
 at_:∀i,i<l.length->Boxed W (bs.getD i 0) 9 (.string (l.getD i ⟨#[]⟩))
section
variable {W W':World} {bs:List Nat} {l:List ByteArray}
theorem Dls.keep (h:Dls W bs l) (b:Below W.heap.size W W'):Dls W' bs l:=⟨h.len,fun i hi=>hkeep (h.at_ i hi) b⟩
theorem Dls.grown {base:Nat} {v:Value} {k:Nat} {xs:List Value} (h:Dls W bs l) (hr:W.ownsRow base 109 2 v k xs) (hg:W.grownBy W' v.ownBlock):Dls W' bs l:=⟨h.len,fun i hi=>(h.at_ i hi).kept hg ((h.at_ i hi).not_row (by decide) hr)⟩
theorem Dls.snoc {b:Nat} {n:ByteArray} (h:Dls W bs l) (hb:Boxed W b 9 (.string n)):Dls W (bs++[b]) (l++[n]):=by
 refine ⟨by rw [List.length_append,List.length_append,h.len];rfl,fun i hi=>?_⟩;rw [List.length_append,List.length_singleton] at hi;have hl:=h.len
 by_cases h1:i<l.length
 · have e1:(bs++[b]).getD i 0=bs.getD i 0:=by simp [List.getD_eq_getElem?_getD,List.getElem?_append_left (show i<bs.length by omega)]
   have e2:(l++[n]).getD i ⟨#[]⟩=l.getD i ⟨#[]⟩:=by simp [List.getD_eq_getElem?_getD,List.getElem?_append_left h1]
   rw [e1,e2];exact h.at_ i h1
 · have e1:(bs++[b]).getD i 0=b:=by rw [show i=bs.length by omega];simp [List.getD_eq_getElem?_getD]
   have e2:(l++[n]).getD i ⟨#[]⟩=n:=by rw [show i=l.length by omega];simp [List.getD_eq_getElem?_getD]
   rw [e1,e2];exact hb
theorem Dls.sps (h:Dls W bs l):Sps W (bs.map delV) (zdH l):=by
 refine ⟨by unfold zdH;rw [List.length_map,List.length_map,h.len],fun i hi=>?_⟩;unfold zdH at hi ⊢;rw [List.length_map] at hi;have hl:=h.len
 have e1:(bs.map delV).getD i TL.z=delV (bs.getD i 0):=by simp [List.getD_eq_getElem?_getD,show i<bs.length by omega]
 have e2:(l.map fun n=>(⟨fun D=>Dp.delete D n,none⟩:Sp)).getD i zs=⟨fun D=>Dp.delete D (l.getD i ⟨#[]⟩),none⟩:=by simp [List.getD_eq_getElem?_getD,hi]
 rw [e1,e2];exact ⟨zeG (h.at_ i hi),trivial⟩
end
theorem zhV (fv:Value) (ga:Option Addr) (gn gc:Nat) (S:St) (w:World) (hg:IsL Rts.SL w (.slice ga gn gc) S.g) (hn:S.g≠[]) (hB:Stb S):
 Calls Tryz.prog 30 #[zag fv (.slice ga gn gc) S] w fun e w'=>∃a n c fs,e= .returned (.slice a n c)/\IsL TL w' (.slice a n c) fs/\Sps w' fs (zdH (Trm.goneL S S.g.length))/\Below w.heap.size w w':=by
 obtain ⟨i0,hi0,hz0,hz1,hz2⟩:=info_parts info_tl;have hroom:=hg.room;have hgl:=hg.len.1
 have hgn:gn<=1000:=by have:=hB.n;omega
 have hfl:0<=floor S:=by
  unfold floor
  cases h:S.g with
  | nil=>exact absurd h hn
  | cons g t=>exact (hB.g g (by rw [h];exact mcs)).1.1
 have HGB:=zid fun k (hk:k<gn)=>(hB.g (S.g.getD k Rt.zero) (by rw [zao (by omega)];exact List.getElem_mem _)).1;have HT:=zid fun k (hk:k<gn)=>Trm.gone_take (S:=S) (p:=gn) (show gn<=S.g.length by omega) hk;have HLN:=zid (show ((S.g.take gn).map fun g=>segN g.b).length=gn by rw [List.length_map,List.length_take];omega);have HE:=zid (show Trm.goneL S gn=((S.g.take gn).map fun g=>segN g.b)++(if 0<floor S then [Lg.snapN (floor S)] else []) from rfl);have FLO:=zid fun (W:World) (h:IsL Rts.SL W (.slice ga gn gc) S.g)=>zex fv (.slice ga gn gc) S W h hn;have SN:=zid (show ∀W:World,Calls Tryz.prog 62 #[.int .i64 (floor S)] W fun e w'=>e= .returned (.string (Lg.snapN (floor S)))/\Below W.heap.size W w' from fun W=>zim (floor S) W (by omega));have SGN:=zid (show ∀(b:Int) (W:World),0<=b->Calls Tryz.prog 63 #[.int .i64 b] W fun e w'=>e= .returned (.string (segN b))/\Below W.heap.size W w' from fun b W h=>zkk b W (by omega));have DEL:=zid fun (n:ByteArray) (W:World)=>zly n W;rw [<-hgl];have HG:=zid hg;have Q0:=zid (heap_alloc_new w (.cells #[fv,.int .i64 S.d.c,.bool S.d.a,.int .i64 S.d.l,.bool S.d.x,.int .i64 S.v,.slice ga gn gc,.int .i64 S.x,.int .i64 S.s,.int .i64 S.z,.int .u32 S.c] 31));have QB:=zid ((Below.refl w.heap.size w).alloc (Nat.le_refl _) (.cells #[fv,.int .i64 S.d.c,.bool S.d.a,.int .i64 S.d.l,.bool S.d.x,.int .i64 S.v,.slice ga gn gc,.int .i64 S.x,.int .i64 S.s,.int .i64 S.z,.int .u32 S.c] 31));obtain ⟨⟨k0,k1,k2,k3,k4⟩,k5,k6,k7,k8,k9,k10⟩:=zab Q0.out;clear hg hn hB hgl;unfold zag at FLO ⊢;generalize ((S.g.take gn).map fun g=>segN g.b)=L at*;generalize Trm.goneL S gn=GL at*;generalize floor S=fl at*
 go_enter Tryz.func30,Tryz.ntmps30
 go_wp2_with fail;generalize World.alloc w _=w0 at Q0 QB k0 k1 k2 k3 k4 k5 k6 k7 k8 k9 k10 ⊢;clear k0 k1 k2 k3 k4 k5 k6 k7 k8 k9 k10;have hs0:=(Array.getElem?_eq_some_iff.1 Q0.out).1
 go_loopw [3,10] (fun s i wr=>∃(k:Nat) (bs:List Nat),k<=gn/\i= .int .i64 k/\OwnL TL wr w0.heap.size s (bs.map delV)/\Hid (Dls wr bs (L.take k))/\Below w0.heap.size w0 wr) (fun _ i _=>gn-(intOf i).toNat)
 case atStart=>exact ⟨0,[],Nat.zero_le _,rfl,OwnL.nil _ _,zid ⟨by rw [List.take_zero];rfl,fun i hi=>by rw [List.take_zero] at hi;exact absurd hi (Nat.not_lt_zero _)⟩,Below.refl _ _⟩
 case round=>
  obtain ⟨k,bs,hk,rfl,hO,HD,bel⟩:=hrel;have HO:=zid hO;have BEL:=zid bel;have BW:=zid (QB.out.trans (bel.mono QB.out.size));clear hO
  by_cases hlt:k<gn
  · obtain ⟨b,off,rfl,c0,c1,c2⟩:=zce (HG.out.keep BW.out) hlt
    have HTk:=HT.out k hlt
    have hb0:=HGB.out k hlt
    have hlk:bs.length=k:=by have:=HD.out.len;rw [List.length_take,HLN.out] at this;omega
    generalize (S.g.getD k Rt.zero).b=base at*;generalize (S.g.getD k Rt.zero).n=sn at*;generalize (S.g.getD k Rt.zero).z=sz at*;have hgb:=block_lt_of_cell c0;generalize L.take k=LK at*;replace HTk:=zid HTk;clear bel;go_wp2_with fail;refine (SGN.out _ _ hb0.1).mono ?_;rintro e w2 ⟨rfl,b2⟩;generalize segN base=nm at*
    have hsz2:wr.heap.size<=w2.heap.size:=by have:=b2.size;simp at this;omega
    have B2:=zid (show Below wr.heap.size wr w2 from ((Below.refl wr.heap.size wr).alloc (Nat.le_refl _) _).trans (b2.mono (by simp)));clear b2 hb0;go_wp2_with fail;refine (DEL.out nm w2).mono ?_;rintro e w3 ⟨bx,rfl,hbx,b3⟩;have hsz3:=b3.size;have B3:=zid (B2.out.trans (b3.mono hsz2));have hO3:=HO.out.keep B3.out;have HO3:=zid hO3;have HLT:=zid fun k' (h:_)=>HO.out.lt k' h;have hbw:w0.heap.size<=w3.heap.size:=Nat.le_trans BEL.out.size (Nat.le_trans hsz2 hsz3);have HOX:=zid (show (w3.alloc (.cells [.func (.func 98) #[] #[.pointer (some ⟨bx,0,none⟩)],.nilFunc].toArray 109)).ownsRow w0.heap.size 109 2 _ (bs.map delV).length (TL.vals (bs.map delV)) from hO3.alloc _);have HBW:=zid ((BEL.out.trans (B3.out.mono BEL.out.size)).alloc hbw (.cells [.func (.func 98) #[] #[.pointer (some ⟨bx,0,none⟩)],.nilFunc].toArray 109));have HNEW:=zid (zar w3 w3.heap.size [.func (.func 98) #[] #[.pointer (some ⟨bx,0,none⟩)],.nilFunc] 109 rfl);have H1:=zid (show ∀u∈[Value.func (.func 98) #[] #[.pointer (some ⟨bx,0,none⟩)],.nilFunc],u.oneCell'=true from TL.one (delV bx));have HDX:=zid (show Dls (w3.alloc (.cells [.func (.func 98) #[] #[.pointer (some ⟨bx,0,none⟩)],.nilFunc].toArray 109)) (bs++[bx]) (LK++[nm]) from ((HD.out.keep B3.out).snoc hbx).keep (zbt w3 _))
    have hml:(bs.map delV).length=k:=by rw [List.length_map];exact hlk
    have HF:Hid (∀v' w4,w4.ownsRow w0.heap.size 109 2 v' ((bs.map delV).length+1) (TL.vals (bs.map delV)++[.func (.func 98) #[] #[.pointer (some ⟨bx,0,none⟩)],.nilFunc])->OwnL TL w4 w0.heap.size v' ((bs++[bx]).map delV)):=fun v' w4 h=>by
     rw [List.map_append];exact OwnL.snoc (n:=(bs.map delV).length) h rfl rfl
    clear b3 hbx hO3;generalize hxs:TL.vals (bs.map delV)=xs at*;rw [hml] at HOX HF;clear hxs hlk hml
    go_wp2_with (at_builtin;refine wpList_append_own _ rfl _ _ 69 rfl w0.heap.size 109 i0 (.agg #[.nilFunc,.nilFunc]) 2 16 Tryz.underlying69 hi0 hz0 hz1 hz2 rfl (by decide) _ _ _ rfl HOX.out ⟨w3.heap.size,0,none⟩ 1 1 [.func (.func 98) #[] #[.pointer (some ⟨bx,0,none⟩)],.nilFunc] rfl rfl HNEW.out H1.out (by unfold maxLen;omega) (by omega) (by simp;omega) ?_;intro v' w4 hown' hgrow4 hnil4)
    go_roundw
    case rel=>
     exact ⟨k+1,bs++[bx],by omega,by go_num,HF.out v' w4 hown',zid (by rw [HTk.out];exact HDX.out.grown HOX.out hgrow4),HBW.out.grown hgrow4 (by simp;omega) (fun q hq=>(HLT.out q hq).1)⟩
    case measure=>simp [intOf];omega
  · obtain rfl:k=gn:=by omega
    rw [show L.take k=L from List.take_of_length_le (by rw [HLN.out];exact Nat.le_refl _)] at HD
    have P0:=hkeep Q0.out bel;obtain ⟨⟨k0,k1,k2,k3,k4⟩,k5,k6,k7,k8,k9,k10⟩:=zab P0;clear P0 bel;go_wp2_with fail;refine (FLO.out _ (HG.out.keep BW.out)).mono ?_;rintro e w2 ⟨rfl,b2⟩;have BW2:=zid (BW.out.trans (b2.mono BW.out.size));have BEL2:=zid (BEL.out.trans (b2.mono BEL.out.size));have HO2:=zid (HO.out.keep b2);have HD2:=zid (HD.out.keep b2);clear b2 k0 k1 k2 k3 k4 k5 k6 k7 k8 k9 k10 HO HD
    by_cases hf:0<fl
    · have HEE:=zid (show GL=L++[Lg.snapN fl] by rw [HE.out,if_pos hf])
      go_wp2_with fail
      refine (SN.out _).mono ?_;rintro e w5 ⟨rfl,b5⟩
      have hlk:bs.length=k:=by rw [HD2.out.len];exact HLN.out
      generalize Lg.snapN fl=nm at*;have B5:=zid b5;have hsz5:=b5.size;clear b5;go_wp2_with fail;refine (DEL.out nm w5).mono ?_;rintro e w3 ⟨bx,rfl,hbx,b3⟩;have hsz3:=b3.size;have B3:=zid (B5.out.trans (b3.mono hsz5));have hO3:=HO2.out.keep B3.out;have HLT:=zid fun k' (h:_)=>HO2.out.lt k' h;have hbw:w0.heap.size<=w3.heap.size:=Nat.le_trans BEL2.out.size (Nat.le_trans hsz5 hsz3);have HQS:=zid QB.out.size;have HBQ:=zid ((BW2.out.trans (B3.out.mono BW2.out.size)).alloc (Nat.le_trans HQS.out hbw) (.cells [.func (.func 98) #[] #[.pointer (some ⟨bx,0,none⟩)],.nilFunc].toArray 109));have HOX:=zid (show (w3.alloc (.cells [.func (.func 98) #[] #[.pointer (some ⟨bx,0,none⟩)],.nilFunc].toArray 109)).ownsRow w0.heap.size 109 2 _ (bs.map delV).length (TL.vals (bs.map delV)) from hO3.alloc _);have HBW:=zid ((BEL2.out.trans (B3.out.mono BEL2.out.size)).alloc hbw (.cells [.func (.func 98) #[] #[.pointer (some ⟨bx,0,none⟩)],.nilFunc].toArray 109));have HNEW:=zid (zar w3 w3.heap.size [.func (.func 98) #[] #[.pointer (some ⟨bx,0,none⟩)],.nilFunc] 109 rfl);have H1:=zid (show ∀u∈[Value.func (.func 98) #[] #[.pointer (some ⟨bx,0,none⟩)],.nilFunc],u.oneCell'=true from TL.one (delV bx));have HDX:=zid (show Dls (w3.alloc (.cells [.func (.func 98) #[] #[.pointer (some ⟨bx,0,none⟩)],.nilFunc].toArray 109)) (bs++[bx]) (L++[nm]) from ((HD2.out.keep B3.out).snoc hbx).keep (zbt w3 _))
      have hml:(bs.map delV).length=k:=by rw [List.length_map];exact hlk
      have HF:Hid (∀v' w4,w4.ownsRow w0.heap.size 109 2 v' ((bs.map delV).length+1) (TL.vals (bs.map delV)++[.func (.func 98) #[] #[.pointer (some ⟨bx,0,none⟩)],.nilFunc])->OwnL TL w4 w0.heap.size v' ((bs++[bx]).map delV)):=fun v' w4 h=>by
       rw [List.map_append];exact OwnL.snoc (n:=(bs.map delV).length) h rfl rfl
      clear b3 hbx hO3;generalize hxs:TL.vals (bs.map delV)=xs at*;rw [hml] at HOX HF;clear hxs hlk hml
      go_wp2_with (at_builtin;refine wpList_append_own _ rfl _ _ 69 rfl w0.heap.size 109 i0 (.agg #[.nilFunc,.nilFunc]) 2 16 Tryz.underlying69 hi0 hz0 hz1 hz2 rfl (by decide) _ _ _ rfl HOX.out ⟨w3.heap.size,0,none⟩ 1 1 [.func (.func 98) #[] #[.pointer (some ⟨bx,0,none⟩)],.nilFunc] rfl rfl HNEW.out H1.out (by unfold maxLen;omega) (by omega) (by simp;omega) ?_;intro v' w4 hown' hgrow4 hnil4)
      have hI:=(HF.out v' w4 hown').is (by rw [List.length_map,List.length_append];have:=HDX.out.len;rw [List.length_append,List.length_append,HLN.out] at this;simp at this ⊢;unfold maxLen;omega) (fun _ _=>trivial)
      obtain ⟨a4,n4,c4,rfl⟩:∃a n c,v'= .slice a n c:=by obtain ⟨a,c,h,_⟩:=hI;exact ⟨a,_,c,h⟩
      have HFIN:=zid (show ∃a n c fs,Ending.returned (.slice a4 n4 c4)= .returned (.slice a n c)/\IsL TL w4 (.slice a n c) fs/\Sps w4 fs (zdH GL)/\Below w.heap.size w w4 from ⟨a4,n4,c4,_,rfl,hI,by rw [HEE.out];exact (HDX.out.grown HOX.out hgrow4).sps,HBQ.out.grown hgrow4 (by have:=HQS.out;simp;omega) (fun q hq=>Nat.le_trans HQS.out (HLT.out q hq).1)⟩);clear hI hown' hgrow4 hnil4;go_wp2_with fail;go_ret;exact HFIN.out
    · have HEE:=zid (show GL=L by rw [HE.out,if_neg hf,List.append_nil])
      have hI:=HO2.out.is (by rw [List.length_map];have:=HD2.out.len;rw [HLN.out] at this;unfold maxLen;omega) (fun _ _=>trivial)
      obtain ⟨a4,n4,c4,rfl⟩:∃a n c,u3= .slice a n c:=by obtain ⟨a,c,h,_⟩:=hI;exact ⟨a,_,c,h⟩
      have HI:=zid hI;clear hI HO2;go_wp2_with fail;go_ret;exact ⟨a4,n4,c4,_,rfl,HI.out,by rw [HEE.out];exact HD2.out.sps,BW2.out⟩
end Ins
end Go.Proofs.YtgmppfpllogdcaaGreat

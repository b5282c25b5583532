/-
  Parts of what the laws of this seat stand on:SegRef,StoAll.
-/
import Derived.Test.YtooipogbmfkeeaaGreatQr1
import Derived.BigQuiet
import Derived.Deep.RegionHeld3
import Derived.Deep.RegionLaw
import Derived.IntWalk
import Derived.Laws.AppendOwnNone
import Derived.Laws.StructEq
import Derived.Lib.Builder
import Derived.Lib.SliceRun
import Derived.Lib.Strings
import Derived.Outline
import Derived.Shelf.RegionOpenPlain
import Derived.Test.YtooipogbmfkeeaaGreatQr14
import Derived.Test.YtooipogbmfkeeaaGreatQr2
import Derived.Test.YtooipogbmfkeeaaGreatQr23
import Derived.Test.YtooipogbmfkeeaaGreatQr7
set_option maxRecDepth 100000
set_option maxHeartbeats 6400000
namespace Go.Proofs.YtooipogbmfkeeaaGreat
section
open Go.RowKit
def NL:Lay Nat where
 enc:=fun n=>[.int .i64 (n:Int)]
 k:=1
 len:=fun _=>rfl
 one:=by intro f u hu;rw [List.mem_singleton] at hu;subst hu;rfl
 pos:=by decide
 T:=3
 ok:=fun n=>n<=9223372036854775807
 z:=0
theorem info_int:(Tryz.prog.info? 3).map (fun i=>(i.zero,i.size,i.bytes))=some (some (.int .i64 0),1,8):=by kernel_rfl
theorem zfc {w:World} {B B':Nat} {e e':TypeId} {k k' n n':Nat} {v v':Value} {xs xs':List Value} (h:w.ownsRow B e k v n xs) (h':w.ownsRow B' e' k' v' n' xs') (he:e≠e'):v.ownBlock=none\/v.ownBlock≠v'.ownBlock:=by
 rcases h.2 with ⟨rfl,_⟩ | ⟨g,cap,cur,rfl,_,hg,_⟩
 · exact .inl rfl
 · refine .inr fun e0=>?_
   rcases h'.2 with ⟨rfl,_⟩ | ⟨g',cap',cur',rfl,_,hg',_⟩
   · cases e0
   · simp [Value.ownBlock] at e0
     subst e0
     rw [hg] at hg'
     injection hg' with hg'
     injection hg' with _ e1
     exact he e1
theorem own_slice {w:World} {B:Nat} {e:TypeId} {k n:Nat} {v:Value} {xs:List Value} (h:w.ownsRow B e k v n xs):∃a c,v= .slice a n c:=by
 rcases h.2 with ⟨rfl,rfl⟩ | ⟨g,cap,cur,rfl,_⟩
 · exact ⟨none,0,rfl⟩
 · exact ⟨_,_,rfl⟩
theorem zi2 {α β:Type} (f:α->β) (l:List α) (x:α):(l++[x]).map f=l.map f++[f x]:=by simp
def zbI (w:World) (F:List (Rp.Rec×Nat)×Nat×Int) (e:Ending) (w':World):Prop:=
 ∃v vp,e= .returned (.tuple #[v,vp,.int .i64 (F.2.1:Nat),.int .i64 F.2.2])/\zbw w' v (F.1.map Prod.fst)/\IsL NL w' vp (F.1.map Prod.snd)/\Below w.heap.size w w'
theorem zbI.mk {w w':World} {F:List (Rp.Rec×Nat)×Nat×Int} {ps:List (Rp.Rec×Nat)} {k:Nat} {er:Int} {v vp:Value} (h:F=(ps,k,er)) (hv:zbw w' v (ps.map Prod.fst)) (hp:IsL NL w' vp (ps.map Prod.snd)) (hb:Below w.heap.size w w'):
 zbI w F (.returned (.tuple #[v,vp,.int .i64 (k:Int),.int .i64 er])) w':=by
 subst h;exact ⟨v,vp,rfl,hv,hp,hb⟩
theorem zde {w wr:World} {l:List UInt8} {b:Int} {ps:List (Rp.Rec×Nat)} {k:Nat} {v vp:Value} {B:Nat} (hk:k<=4398046511104) (hg:Gp.Good l b 0 ps k)
 (h1:wr.ownsRow B 49 3 v ps.length (zaN (ps.map Prod.fst))) (h2:wr.ownsRow B 3 1 vp ps.length (NL.vals (ps.map Prod.snd))) {F:List (Rp.Rec×Nat)×Nat×Int} {er:Int} (hF:F=(ps,k,er)) (hb:Below w.heap.size w wr):
 zbI w F (.returned (.tuple #[v,vp,.int .i64 (k:Int),.int .i64 er])) wr:=by
 have hf:=hg.few;refine zbI.mk hF (zbw.own h1 (by unfold maxLen;omega) fun r hr=>?_) ?_ hb
 · rw [List.mem_map] at hr
   obtain ⟨p,hp,rfl⟩:=hr
   exact hg.ok p hp
 · have h3:OwnL NL wr B vp (ps.map Prod.snd):=by
    unfold OwnL;rw [List.length_map];exact h2
   refine h3.is (by rw [List.length_map];unfold maxLen;omega) fun n hn=>?_;rw [List.mem_map] at hn;obtain ⟨p,hp,rfl⟩:=hn;obtain ⟨i,hi,rfl⟩:=List.getElem_of_mem hp;have:=(hg.lo i hi).2;show _<=9223372036854775807;omega
theorem zhR (s:ByteArray) (base:Int) (w:World) (h:base<0\/1099511627776<base) (h1: -9223372036854775808<=base) (h2:base<=9223372036854775807):
 Calls Tryz.prog 105 #[.string s,.int .i64 base] w (zbI w (Gp.full s.data.toList base)):=by
 have HF:=zid (zbI.mk (w:=w) (Gp.full_out (l:=s.data.toList) (Rp.inB_no h)) (zbw.nil w none 0) (IsL.nil (Y:=NL) w none 0) (Below.refl _ w))
 rcases h with h | h
 · go_enter Tryz.func105,Tryz.ntmps105
   go_wp2_with fail
   refine bodyPost_ret (v:= .tuple #[.slice none 0 0,.slice none 0 0,.int .i64 0,.int .i64 1]) (by simp [results,Tryz.results105,go_sem]) rfl ?_;exact HF.out
 · have e1:decide (base<0)=false:=by simp;omega
   go_enter Tryz.func105,Tryz.ntmps105
   go_wp2_with fail;refine bodyPost_ret (v:= .tuple #[.slice none 0 0,.slice none 0 0,.int .i64 0,.int .i64 1]) (by simp [results,Tryz.results105,go_sem]) rfl ?_;exact HF.out
theorem zjC (s:ByteArray) (base:Int) (w:World) (hs:s.size<=4398046511104) (hb0:0<=base) (hb1:base<=1099511627776):
 Calls Tryz.prog 105 #[.string s,.int .i64 base] w (zbI w (Gp.full s.data.toList base)):=by
 have HL:=zid (show s.data.toList.length=s.size from rfl);have HFU:=zid (Gp.full_in (l:=s.data.toList) (Rp.inB_mk hb0 hb1));obtain ⟨i0,hi,hz0,hz1,hz2⟩:=info_parts zi7;obtain ⟨i1,hj,hy0,hy1,hy2⟩:=info_parts info_int
 have e1:decide (base<0)=false:=by simp;omega
 have e2:decide ((1099511627776:Int)<base)=false:=by simp;omega
 go_enter Tryz.func105,Tryz.ntmps105
 go_wp2_with fail;clear e1 e2
 go_loopw [8,9,10] (fun v vp a wr=>∃(ps:List (Rp.Rec×Nat)) (k:Nat),k<=s.size/\a= .int .i64 k/\wr.ownsRow w.heap.size 49 3 v ps.length (zaN (ps.map Prod.fst))/\wr.ownsRow w.heap.size 3 1 vp ps.length (NL.vals (ps.map Prod.snd))/\Gp.PRel s.data.toList base 0 ps k/\Gp.Good s.data.toList base 0 ps k/\Below w.heap.size w wr)
  (fun _ _ a _=>s.size-(intOf a).toNat)
 case atStart=>exact ⟨[],0,Nat.zero_le _,rfl,World.ownsRow_nil _ _ _ _,World.ownsRow_nil _ _ _ _,Gp.PRel.start _ _ _,Gp.Good.start _ _ _,Below.refl _ _⟩
 case round=>
  obtain ⟨ps,k,hk,rfl,hO,hP,hr,hgd,hb⟩:=hrel;have HR:=zid hr;have HG:=zid hgd;have HO:=zid hO;have HP:=zid hP;have HB:=zid hb;have hsz:=hb.size;have hfew:=hgd.few;clear hr hgd
  by_cases hlt:k<s.size
  · have C:=fun W:World=>zdc s (k:Int) W (by omega)
    rw [zcC] at C
    rcases Fr.nx_cases (s.data.toList.drop k) with ⟨er,he,h3⟩ | ⟨j,b,he,h5,h6,h7,h8⟩
    · rw [zaX he (by omega)] at C
      have HV:=zid (HFU.out.trans (HR.out.stop (by rw [HL.out];exact hlt) (Rp.nxt_no he (by omega)) (by omega)))
      replace C:=zid C;clear he hO hP
      rcases h3 with rfl | rfl | rfl
      all_goals
       go_wp2_with fail
       refine (C.out _).mono ?_;rintro e w1 ⟨rfl,b1⟩;have b01:=hb.trans (b1.mono hb.size);have HF:=zid (zde (Nat.le_trans hk hs) HG.out (zaq HO.out b1) (zaq HP.out b1) HV.out b01);go_wp2_with fail;refine bodyPost_ret (v:= .tuple #[u8,u9,.int .i64 k,.int .i64 _]) (by simp [results,Tryz.results105,go_sem];rfl) rfl ?_;exact HF.out
    · rw [zbY he] at C
      obtain ⟨q,hq⟩:∃q,k+j=q:=⟨_,rfl⟩
      rw [hq] at C;replace C:=zid C
      have hbl:b.length<=9223372036854775807:=by have:=h7.2;omega
      have D:=fun W:World=>rget_any ⟨b.toArray⟩ W (by rw [zam];exact hbl);rw [show (⟨b.toArray⟩:ByteArray).data.toList=b from rfl] at D
      rcases Rp.get_cases b with ⟨er,hg,h3⟩ | ⟨r,hg,hok,hbd⟩
      · rw [zbG hg] at D
        have HV:=zid (HFU.out.trans (HR.out.stop (by rw [HL.out];exact hlt) (Rp.nxt_bad he hg (by omega)) (by omega)))
        replace D:=zid D;clear he hg h5 h6 h7 h8 hq hbl hO hP
        rcases h3 with rfl | rfl | rfl
        all_goals
         go_wp2_with fail
         refine (C.out _).mono ?_;rintro e w1 ⟨rfl,b1⟩;go_wp2_with fail;refine (D.out _).mono ?_;rintro e w2 ⟨rfl,b2⟩;have b12:=zaf b1 b2;have b01:=hb.trans (b12.mono hb.size);have b02:=b01.alloc b01.size (.cells #[.int .i64 0,.int .i64 0,.string ⟨#[]⟩] 49);have HF:=zid (zde (Nat.le_trans hk hs) HG.out ((zaq HO.out b12).alloc (.cells #[.int .i64 0,.int .i64 0,.string ⟨#[]⟩] 49)) ((zaq HP.out b12).alloc (.cells #[.int .i64 0,.int .i64 0,.string ⟨#[]⟩] 49)) HV.out b02);clear b02 b12 b01;go_wp2_with fail;refine bodyPost_ret (v:= .tuple #[u8,u9,.int .i64 k,.int .i64 _]) (by simp [results,Tryz.results105,go_sem];rfl) rfl ?_;exact HF.out
      · rw [zdg hg] at D
        have hnx:=Rp.nxt_yes he hg
        have h6':=h6;rw [List.length_drop,HL.out] at h6;have h7b:=Rp.body_pos r;rw [hbd] at h7b;unfold za3 at D;replace D:=zid D;obtain ⟨va,vc,rfl⟩:=own_slice hO;obtain ⟨ln,hln⟩:∃ln,ps.length=ln:=⟨_,rfl⟩
        have hlk:7*ln<=k:=by omega
        by_cases ha:r.a=base+ps.length
        · have HST:=zid (HR.out.step hnx (by omega) h6' ha)
          have HSG:=zid (HG.out.step hok ha (by omega) h6')
          rw [hq] at HST HSG
          have hq2:q<=s.size:=by omega
          have hq4:k<q:=by omega
          have HSF:=zid (zi2 Prod.fst ps (r,k));have HSS:=zid (zi2 Prod.snd ps (r,k));have HSL:=zid (show (ps++[(r,k)]).length=ps.length+1 by simp);have HNV:=zid (NL.vals_append (ps.map Prod.snd) [k]);rw [hln] at ha HSL;obtain ⟨ra,rt,rd⟩:=r;dsimp only at ha D HST HSG HSF HSS HSL;subst ha;clear he hg hok hnx h5 h6 h6' h7 h8 h7b hq hbl hbd hO hP;rw [hln] at HO HP ⊢;clear hln;go_wp2_with fail;refine (C.out _).mono ?_;rintro e w1 ⟨rfl,b1⟩;go_wp2_with fail;refine (D.out _).mono ?_;rintro e w2 ⟨rfl,b2⟩;have HB12:=zid (zaf b1 b2);have HB01:=zid (HB.out.trans (HB12.out.mono hsz));have HO2:=zid (((zaq HO.out HB12.out).alloc (.cells #[.int .i64 (base+(ln:Int)),.int .i64 rt,.string rd] 49)).alloc (.cells #[.int .i64 (base+(ln:Int)),.int .i64 rt,.string rd] 49));have HP2:=zid (((zaq HP.out HB12.out).alloc (.cells #[.int .i64 (base+(ln:Int)),.int .i64 rt,.string rd] 49)).alloc (.cells #[.int .i64 (base+(ln:Int)),.int .i64 rt,.string rd] 49));have HBB:=zid ((HB01.out.alloc HB01.out.size (.cells #[.int .i64 (base+(ln:Int)),.int .i64 rt,.string rd] 49)).alloc (by have:=HB01.out.size;simp;omega) (.cells #[.int .i64 (base+(ln:Int)),.int .i64 rt,.string rd] 49));have hs2:=HB01.out.size;clear b1 b2
          go_wp2_with (first | (at_builtin;refine wpList_append_own _ rfl _ _ 80 rfl w.heap.size 49 i0 (.agg #[.int .i64 0,.int .i64 0,.string ByteArray.empty]) 3 32 Tryz.underlying80 hi hz0 hz1 hz2 rfl (by decide) _ _ _ rfl HO2.out ⟨w2.heap.size+1,0,none⟩ 1 1 [.int .i64 (base+(ln:Int)),.int .i64 rt,.string rd] (by simp [go_sem]) rfl (news_two _ _ _ _ _ _) (by simp [Value.oneCell']) (by unfold maxLen;omega) (by omega) (by simp;omega) ?_;intro v3 w3 hown3 hgrow3 hnil3;have HO3:=zid hown3;have HP3:=zid (World.ownsRow.kept HP2.out hgrow3 (zfc HP2.out HO2.out (by decide)));have HB3:=zid (HBB.out.grown hgrow3 (by simp;omega) (fun p hp=>(HO.out.lt p hp).1));have hs3:=HB3.out.size;clear hown3 hgrow3 hnil3;have HP4:=zid (HP3.out.alloc (.cells #[.int .i64 k] 3));have HO4:=zid (HO3.out.alloc (.cells #[.int .i64 k] 3));have HB4:=zid (HB3.out.alloc hs3 (.cells #[.int .i64 k] 3))) | (at_builtin;refine wpList_append_own _ rfl _ _ 36 rfl w.heap.size 3 i1 (.int .i64 0) 1 8 Tryz.underlying36 hj hy0 hy1 hy2 rfl (by decide) _ _ _ rfl HP4.out ⟨w3.heap.size,0,none⟩ 1 1 [.int .i64 k] (by simp [go_sem]) rfl (zas w3 _ [.int .i64 k] 3 rfl) (by simp [Value.oneCell']) (by unfold maxLen;omega) (by omega) (by simp;omega) ?_;intro v5 w5 hown5 hgrow5 hnil5))
          go_roundw
          case rel=>exact ⟨ps++[(⟨base+(ln:Int),rt,rd⟩,k)],q,hq2,rfl,by rw [HSL.out,HSF.out,zdY];exact World.ownsRow.kept HO4.out hgrow5 (zfc HO4.out HP4.out (by decide)),by rw [HSL.out,HSS.out,NL.vals_append];exact hown5,HST.out,HSG.out,HB4.out.grown hgrow5 (by simp;omega) (fun p hp=>(HP.out.lt p hp).1)⟩
          case measure=>simp [intOf];omega
        · have HV:=zid (HFU.out.trans (HR.out.form (by rw [HL.out];exact hlt) hnx ha))
          have haw:¬r.a=base+(ln:Int):=by rw [<-hln];exact ha
          have hae:(r.a==base+(ln:Int))=false:=by simpa using haw
          clear he hg hok hnx h5 h6 h6' h7 h8 h7b hq hbl hbd hO hP ha;have HE:=zid fun (W:World) (h1:W.ownsRow w.heap.size 49 3 (.slice va ps.length vc) ps.length (zaN (ps.map Prod.fst))) (h2:W.ownsRow w.heap.size 3 1 u9 ps.length (NL.vals (ps.map Prod.snd))) (h3:Below w.heap.size w W)=>zde (Nat.le_trans hk hs) HG.out h1 h2 HV.out h3;rw [hln] at HE HO HP ⊢;clear hln;go_wp2_with fail;refine (C.out _).mono ?_;rintro e w1 ⟨rfl,b1⟩;go_wp2_with fail;refine (D.out _).mono ?_;rintro e w2 ⟨rfl,b2⟩;have HB12:=zid (zaf b1 b2);have HB01:=zid (HB.out.trans (HB12.out.mono hsz));have HF:=zid (HE.out _ ((zaq HO.out HB12.out).alloc (.cells #[.int .i64 r.a,.int .i64 r.t,.string r.d] 49)) ((zaq HP.out HB12.out).alloc (.cells #[.int .i64 r.a,.int .i64 r.t,.string r.d] 49)) (HB01.out.alloc HB01.out.size (.cells #[.int .i64 r.a,.int .i64 r.t,.string r.d] 49)));clear b1 b2;go_wp2_with fail;refine bodyPost_ret (v:= .tuple #[.slice va ln vc,u9,.int .i64 k,.int .i64 3]) (by simp [results,Tryz.results105,go_sem]) rfl ?_;exact HF.out
  · have HV:=zid (HFU.out.trans (HR.out.done (by rw [HL.out];omega)))
    have HF:=zid (zde (Nat.le_trans hk hs) HG.out HO.out HP.out HV.out hb)
    clear hO hP;go_wp2_with fail;refine bodyPost_ret (v:= .tuple #[u8,u9,.int .i64 k,.int .i64 0]) (by simp [results,Tryz.results105,go_sem]) rfl ?_;exact HF.out
theorem zhS (s:ByteArray) (base:Int) (w:World) (hs:s.size<=4398046511104) (h1: -9223372036854775808<=base) (h2:base<=9223372036854775807):
 Calls Tryz.prog 105 #[.string s,.int .i64 base] w (zbI w (Gp.full s.data.toList base)):=by
 by_cases h:base<0\/1099511627776<base
 · exact zhR s base w h h1 h2
 · exact zjC s base w hs (by omega) (by omega)
def zdw (w:World) (F:List (Rp.Rec×Nat)×Nat×Int) (e:Ending) (w':World):Prop:=
 ∃v,e= .returned (.tuple #[v,.int .i64 (F.2.1:Nat),.int .i64 F.2.2])/\zbw w' v (F.1.map Prod.fst)/\Below w.heap.size w w'
theorem ze6 (s:ByteArray) (base:Int) (w:World) (hs:s.size<=4398046511104) (h1: -9223372036854775808<=base) (h2:base<=9223372036854775807):
 Calls Tryz.prog 64 #[.string s,.int .i64 base] w (zdw w (Gp.full s.data.toList base)):=by
 have P:=zid (zhS s base w hs h1 h2);generalize Gp.full s.data.toList base=F at*
 go_enter Tryz.func64,Tryz.ntmps64
 go_wp2_with fail;refine P.out.mono ?_;rintro e w1 ⟨v,vp,rfl,hv,hp,b1⟩;have HF:=zid (show zdw w F (.returned (.tuple #[v,.int .i64 (F.2.1:Nat),.int .i64 F.2.2])) w1 from ⟨v,rfl,hv,b1⟩);clear hv hp b1;go_wp2_with fail;go_ret3;exact HF.out
theorem zfY {W:World} {k:Nat} {T:TypeId} {cs:Array Value} (h:W.heap[k]?=some (.cells cs T (0,0))):W.frozen? ⟨k,0,none⟩=false/\W.frozen? ⟨k,1,none⟩=false/\W.frozen? ⟨k,2,none⟩=false:=by
 refine ⟨?_,?_,?_⟩<;>(unfold World.frozen?;rw [h];rfl)
theorem cells3 {W:World} {k:Nat} {T:TypeId} {x y z:Value} (h:W.heap[k]?=some (.cells #[x,y,z] T (0,0))):W.cell? ⟨k,0,none⟩=some x/\W.cell? ⟨k,1,none⟩=some y/\W.cell? ⟨k,2,none⟩=some z:=
 ⟨by rw [cell_of_row _ _ 0 _ _ _ h];rfl,by rw [cell_of_row _ _ 1 _ _ _ h];rfl,by rw [cell_of_row _ _ 2 _ _ _ h];rfl⟩
theorem bel_st3 {base k:Nat} {w W:World} (h:Below base w W) (hk:base<=k) (x y z:Value):Below base w (((W.setCell ⟨k,0,none⟩ x).setCell ⟨k,1,none⟩ y).setCell ⟨k,2,none⟩ z):=
 ((h.setCell (p:=⟨k,0,none⟩) hk x).setCell (p:=⟨k,1,none⟩) hk y).setCell (p:=⟨k,2,none⟩) hk z
end
namespace Sto
open Go.RowKit So Dsk Rts
def sgVal (g:Rt.Sg):Value:= .agg #[.int .i64 g.b,.int .i64 g.n,.int .i64 g.z]
def AllRs (w:World) (l:List Rp.Rec) (e:Ending) (w':World):Prop:=∃v,e= .returned v/\zbw w' v l/\Below w.heap.size w w'
theorem read_as (D:Dp.Dk) (n:ByteArray) (h:Sm D):∃(s:ByteArray) (e:Int),zbj D.f n= .tuple #[.string s,.int .i64 e]/\s.data.toList=(dat D n).getD []/\s.size<=4398046511104:=by
 unfold dat
 cases hg:Dp.get D.f n with
 | none=>exact ⟨⟨#[]⟩,7,zcn hg,rfl,by decide⟩
 | some f=>
  refine ⟨f.d,0,zbV hg,rfl,?_⟩;have h1:=zcx (Dp.get_mem hg).1;have h2:=h.u;omega
theorem keep8 {w W W':World} {b:Nat} {v0 v1 v2 v3 v4 u0:Value}
 (h:W.cell? ⟨b,0,none⟩=some v0/\W.cell? ⟨b,1,none⟩=some v1/\W.cell? ⟨b,2,none⟩=some v2/\W.cell? ⟨b,3,none⟩=some v3/\W.cell? ⟨b,4,none⟩=some v4/\W.cell? ⟨b+1,0,none⟩=some u0/\Below w.heap.size w W) (k:Below W.heap.size W W'):
 W'.cell? ⟨b,0,none⟩=some v0/\W'.cell? ⟨b,1,none⟩=some v1/\W'.cell? ⟨b,2,none⟩=some v2/\W'.cell? ⟨b,3,none⟩=some v3/\W'.cell? ⟨b,4,none⟩=some v4/\W'.cell? ⟨b+1,0,none⟩=some u0/\Below w.heap.size w W':=by
 obtain ⟨h0,h1,h2,h3,h4,h5,hb⟩:=h;have q:∀{b o:Nat} {x:Value},W.cell? ⟨b,o,none⟩=some x->W'.cell? ⟨b,o,none⟩=some x:=fun {b o x} e=>(World.cell?_of_block (k.block b (block_lt_of_cell e))).trans e;exact ⟨q h0,q h1,q h2,q h3,q h4,q h5,hb.trans (k.mono hb.size)⟩
theorem bel8 {w W:World} {b:Nat} {v0 v1 v2 v3 v4 u0:Value}
 (h:W.cell? ⟨b,0,none⟩=some v0/\W.cell? ⟨b,1,none⟩=some v1/\W.cell? ⟨b,2,none⟩=some v2/\W.cell? ⟨b,3,none⟩=some v3/\W.cell? ⟨b,4,none⟩=some v4/\W.cell? ⟨b+1,0,none⟩=some u0/\Below w.heap.size w W):Below w.heap.size w W:=h.2.2.2.2.2.2
theorem zjL (fv gv:Value) (S:St) (g:Rt.Sg) (w:World) (hf:IsL FL w fv S.d.f) (hS:Sm S.d) (hg:0<=g.b/\g.b<=1152921504606846976):
 Calls Tryz.prog 38 #[zag fv gv S,sgVal g] w (AllRs w (zdk S.d g.b)):=by
 obtain ⟨fa,fn,fc,rfl⟩:∃a n c,fv= .slice a n c:=by obtain ⟨a,c,h,_⟩:=hf;exact ⟨a,_,c,h⟩
 obtain ⟨g0,g1,gb,gs⟩:=zaR w #[.slice fa fn fc,.int .i64 S.d.c,.bool S.d.a,.int .i64 S.d.l,.bool S.d.x,.int .i64 S.v,gv,.int .i64 S.x,.int .i64 S.s,.int .i64 S.z,.int .u32 S.c] #[.int .i64 g.b,.int .i64 g.n,.int .i64 g.z] 30 75;have SG:=zid fun W:World=>zbM g.b W (by omega);obtain ⟨s,er,hrv,hs,hsz⟩:=read_as S.d (segN g.b) hS;have RD:=zid fun (W:World) (h:IsL FL W (.slice fa fn fc) S.d.f)=>Dsk.rread_any (.slice fa fn fc) S.d (segN g.b) W h;rw [hrv] at RD;have SC:=zid fun W:World=>ze6 s g.b W hsz (by omega) (by omega);have HF:=zid (show (Gp.full s.data.toList g.b).1.map Prod.fst=zdk S.d g.b from by rw [hs];rfl);rw [show (⟨(Np.nameL 115 g.b).toArray⟩:ByteArray)=segN g.b from rfl] at SG;generalize segN g.b=sn at SG RD;generalize Gp.full s.data.toList g.b=F at SC HF;have F0:=zid hf;clear hf hg hrv hs hsz hS;unfold zag sgVal;unfold zac at RD
 go_enter Tryz.func38,Tryz.ntmps38
 go_upto_region 1 with (fail);generalize (w.alloc _).alloc _=w0 at g0 g1 gb gs ⊢;obtain ⟨⟨k0,k1,k2,k3,k4⟩,k5,k6,k7,k8,k9,k10⟩:=zab g0;obtain ⟨s0,s1,s2⟩:=cells3 g1;have ST:w0.cell? ⟨w.heap.size,0,none⟩=some (.slice fa fn fc)/\w0.cell? ⟨w.heap.size,1,none⟩=some (.int .i64 S.d.c)/\w0.cell? ⟨w.heap.size,2,none⟩=some (.bool S.d.a)/\w0.cell? ⟨w.heap.size,3,none⟩=some (.int .i64 S.d.l)/\w0.cell? ⟨w.heap.size,4,none⟩=some (.bool S.d.x)/\w0.cell? ⟨w.heap.size+1,0,none⟩=some (.int .i64 g.b)/\Below w.heap.size w w0:=⟨k0,k1,k2,k3,k4,s0,gb⟩;clear g0 g1 gb gs k0 k1 k2 k3 k4 k5 k6 k7 k8 k9 k10 s0 s1 s2
 go_region_held3 (fun W=>W.cell? ⟨w.heap.size,0,none⟩=some (.slice fa fn fc)/\W.cell? ⟨w.heap.size,1,none⟩=some (.int .i64 S.d.c)/\W.cell? ⟨w.heap.size,2,none⟩=some (.bool S.d.a)/\W.cell? ⟨w.heap.size,3,none⟩=some (.int .i64 S.d.l)/\W.cell? ⟨w.heap.size,4,none⟩=some (.bool S.d.x)/\W.cell? ⟨w.heap.size+1,0,none⟩=some (.int .i64 g.b)/\Below w.heap.size w W) (first | with_reducible assumption | with_reducible exact keep8 (by assumption) (Below.refl _ _).drew | with_reducible exact keep8 (by assumption) (by assumption)) (first | (go_at_call 32;refine (SG.out _).mono ?_;rintro e w4 ⟨rfl,b4⟩) | (go_at_call 26;refine (RD.out _ (F0.out.keep (bel8 (by assumption)))).mono ?_;rintro e w5 ⟨rfl,b5⟩))
 rename_i qq;have Q:=zid (bel8 qq);go_wp2_with fail;refine (SC.out _).mono ?_;rintro e w6 ⟨v,rfl,hr,b6⟩;have HR:=zid hr;have B6:=zid (Q.out.trans (b6.mono Q.out.size));clear hr b6 qq;go_wp2_with fail;go_ret;exact ⟨_,rfl,by rw [<-HF.out];exact HR.out,B6.out⟩
end Sto
end Go.Proofs.YtooipogbmfkeeaaGreat

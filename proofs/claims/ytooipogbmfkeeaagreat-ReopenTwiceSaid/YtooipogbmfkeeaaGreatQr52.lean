/-
  Parts of what the laws of this seat stand on:LogCrash,LogVia,LogLaw,FoldRight,RoBd,RoSur,Law14S.
-/
import Derived.Test.YtooipogbmfkeeaaGreatQr1
import Derived.Laws.StructEq
import Derived.Outline
import Derived.Test.YtooipogbmfkeeaaGreatQr21
import Derived.Test.YtooipogbmfkeeaaGreatQr25
import Derived.Test.YtooipogbmfkeeaaGreatQr27
import Derived.Test.YtooipogbmfkeeaaGreatQr3
import Derived.Test.YtooipogbmfkeeaaGreatQr31
import Derived.Test.YtooipogbmfkeeaaGreatQr43
import Derived.Test.YtooipogbmfkeeaaGreatQr45
import Derived.Test.YtooipogbmfkeeaaGreatQr46
import Derived.Test.YtooipogbmfkeeaaGreatQr5
import Derived.Test.YtooipogbmfkeeaaGreatQr6
set_option maxRecDepth 100000
set_option maxHeartbeats 6400000
namespace Go.Proofs.YtooipogbmfkeeaaGreat
namespace Lg
open Dp So
variable {q F:Int} {S:St} {s0:List Fp.Pr} {rs:List Rp.Rec}
theorem Fulls.crash {D:Dk} {q:Int} (hR:Right D) (k:List Int):∀{t:List Rt.Sg} {b:Int} {rs:List Rp.Rec},Fulls D q t b rs->Fulls (crash D k) q t b rs
 | [],_,_,h=>h
 | _::_,_,_,⟨h1,l,r,h2,h3,h4,h5,h6,h7,h8,h9⟩=>⟨h1,l,r,h2,h3,h4,h5.crash hR k,h6,h7,h8,h9.crash hR k⟩
theorem zkN:∀(l:List Rp.Rec),(∀r∈l,Rp.Ok r)->∀m:Nat,m<=(Rp.rowB l).length->∃j rest,j<=l.length/\(Rp.rowB l).take m=Rp.rowB (l.take j)++rest/\Rest rest/\∀i,i<=l.length->(Rp.rowB (l.take i)).length<=m->i<=j
 | [],_,m,_=>⟨0,[],Nat.le_refl _,by simp [Rp.rowB_nil],.inl rfl,fun i hi _=>hi⟩
 | a::l,hok,m,hm=>by
  have ha:=hok a mcs
  have h7:0<(Fr.fr (Rp.body a)).length:=by rw [Rp.fr_le ha];omega
  rw [Rp.rowB_cons] at hm ⊢;rw [List.length_append] at hm
  by_cases hlt:m<(Fr.fr (Rp.body a)).length
  · refine ⟨0,(Fr.fr (Rp.body a)).take m,Nat.zero_le _,?_,?_,fun i hi h=>?_⟩
    · rw [List.take_append_of_le_length (by omega),List.take_zero,Rp.rowB_nil,List.nil_append]
    · rcases Nat.eq_zero_or_pos m with rfl | h0
      · exact .inl List.take_zero
      · refine .inr ⟨fun e=>?_,2,by decide,Gp.nxt_cut ha hlt⟩
        have:=congrArg List.length e
        rw [List.length_take,List.length_nil] at this;omega
    · cases i with
      | zero=>exact Nat.le_refl _
      | succ i=>
       rw [List.take_succ_cons,Rp.rowB_cons,List.length_append] at h;omega
  · obtain ⟨j,rest,h1,h2,h3,h4⟩:=zkN l (fun r hr=>hok r (mcm hr)) (m-(Fr.fr (Rp.body a)).length) (by omega)
    refine ⟨j+1,rest,by simpa using h1,?_,h3,fun i hi h=>?_⟩
    · rw [List.take_append,List.take_of_length_le (by omega),h2,List.take_succ_cons,Rp.rowB_cons,List.append_assoc]
    · cases i with
      | zero=>exact Nat.zero_le _
      | succ i=>
       rw [List.take_succ_cons,Rp.rowB_cons,List.length_append] at h;exact Nat.succ_le_succ (h4 i (by simpa using hi) (by omega))
theorem Log.crash (h:Log q S F s0 rs) (k:List Int):∃t l r rest,Img q (crash S.d k) (man S) F s0 t l r rest/\l++r=rs.take (l++r).length/\(l++r).length<=rs.length/\S.s<=F+((l++r).length:Int):=by
 obtain ⟨t,l,r,e1,e2,e3,e4,e5,⟨f,f1,f2,f3⟩,e7,e8⟩:=h.seg;have hX:=h.x;have hhi:=h.hi;have hlo:=h.lo;obtain ⟨i,h4⟩:=(zeD S.d.f k _).2 f f1;have hf:=h.dr.1 f (get_mem f1).1;obtain ⟨m,m1,m2,_,m3,m4⟩:=zg4 hf.2 i
 have hsz:f.d.size=(Rp.rowB r).length:=by rw [<-f2];rfl
 obtain ⟨j,rest,j1,j2,j3,j4⟩:=zkN r (fun y hy=>h.ok y (by rw [e2];exact List.mem_append_right _ hy)) m (by omega)
 have hlen:rs.length=l.length+r.length:=by rw [e2,List.length_append]
 have hjl:(l++r.take j).length=l.length+j:=by rw [List.length_append,List.length_take,Nat.min_eq_left j1]
 have hpre:l++r.take j=rs.take (l++r.take j).length:=by
  rw [hjl,e2,List.take_append,List.take_of_length_le (show l.length<=l.length+j by omega),Nat.add_sub_cancel_left]
 have hup:=h.up
 have hup2:Gp.Rise F (l++r.take j):=by
  rw [e2, <-List.take_append_drop j r, <-List.append_assoc] at hup;exact (zbx F _ _ hup).1
 refine ⟨t,l,r.take j,rest,⟨h.dr.crash k,h.mo,?_,?_,h.f0,fun y hy=>h.ok y (by rw [hpre] at hy;exact List.mem_of_mem_take hy),hup2,by have:=h.fx;omega,e3.crash h.dr k,⟨_,by rw [<-e4];exact h4,?_,m4⟩,j3,?_,?_,h.mf.crash h.dr k,zdh S.d.f k⟩,hpre,by omega,?_⟩
 · show (S.g.map fun g:Rt.Sg=>g.b)=_
   conv=>lhs;rw [e1]
   rw [List.map_append, <-e4]
   rfl
 · show (S.g.map fun g:Rt.Sg=>g.b).headD 0=F
   rw [<-h.fl]
   unfold floor
   cases S.g<;>rfl
 · rw [m3,f2,j2]
 · have:=zeh r j
   omega
 · rcases h.sn with h6 | ⟨h6,h7,h8,h9,h10⟩
   · exact .inl h6
   · exact .inr ⟨h6,h7,h8,h9,h10.crash h.dr k⟩
 · have h5:=j4 (S.s-(lastG S).b).toNat (by omega) (by omega)
   rw [hjl]
   omega
theorem up_ext:∀{l k:List Fl},Up l->Up k->(∀n,get l n=get k n)->l=k:=by
 intro l k hl hk h
 have sub:∀{l k:List Fl},Up l->Up k->(∀n,get l n=get k n)->∀f∈l,f∈k:=fun hl hk h f hf=>by
  have h1:=zdl hl hf;rw [h] at h1;exact (get_mem h1).1
 have s1:=sub hl hk h;have s2:=sub hk hl fun n=>(h n).symm;clear h sub
 induction l generalizing k with
 | nil=>
  cases k with
  | nil=>rfl
  | cons g k=>exact absurd (s2 g mcs) (by simp)
 | cons f l ih=>
  cases k with
  | nil=>exact absurd (s1 f mcs) (by simp)
  | cons g k=>
   have hl':=List.pairwise_cons.1 hl;have hk':=List.pairwise_cons.1 hk
   have e:f=g:=by
    rcases List.mem_cons.1 (s1 f mcs) with h1 | h1
    · exact h1
    · rcases List.mem_cons.1 (s2 g mcs) with h2 | h2
      · exact h2.symm
      · exact absurd (hk'.1 f h1) (hl'.1 g h2).asymm
   subst e
   congr 1
   refine ih hl'.2 hk'.2 (fun x hx=>?_) fun x hx=>?_
   · rcases List.mem_cons.1 (s1 x (mcm hx)) with h1 | h1
     · exact absurd (h1▸hl'.1 x hx) (Lt.irrefl _)
     · exact h1
   · rcases List.mem_cons.1 (s2 x (mcm hx)) with h1 | h1
     · exact absurd (h1▸hk'.1 x hx) (Lt.irrefl _)
     · exact h1
theorem zlZ:∀(l:List Fl) (k:List Int),(∀f∈l,f.s=(f.d.size:Int))->zaw l k=l:=by
 have one:∀(f:Fl) (i:Int),f.s=(f.d.size:Int)->left f i=f:=fun f i h=>by
  obtain ⟨n,d,s⟩:=f;dsimp only at h;unfold left;dsimp only
  have e:(s+max 0 (min i ((d.size:Int)-s))).toNat=d.size:=by omega
  have e2:d.extract 0 d.size=d:=by
   apply zdt.2
   rw [ByteArray.data_extract];show (d.data.extract 0 d.data.size).toList=_;rw [Array.extract_size]
  rw [e,e2,h]
 intro l
 induction l with
 | nil=>exact fun _ _=>rfl
 | cons f l ih=>
  intro k h;have h1:=one f;have h2:=h f mcs
  cases k with
  | nil=>rw [zaw,h1 0 h2,ih [] fun g hg=>h g (mcm hg)]
  | cons a k=>rw [zaw,h1 a h2,ih k fun g hg=>h g (mcm hg)]
theorem dk_ext {D E:Dk} (hD:Right D) (hE:Right E) (h:∀n,get D.f n=get E.f n) (hc:D.c=E.c) (ha:D.a=E.a) (hl:D.l=E.l) (hx:D.x=E.x):D=E:=by
 have e:=up_ext hD.2.1 hE.2.1 h
 cases D
 cases E
 dsimp only at e hc ha hl hx;rw [e,hc,ha,hl,hx]
variable {q F:Int} {S:St} {s0:List Fp.Pr} {rs:List Rp.Rec}
theorem Log.sure (h:Log q S F s0 rs) (keep:List Int):(openT (Dp.crash S.d keep)).2=0/\∃n:Nat,n<=rs.length/\S.s<=F+n/\Log q (openT (Dp.crash S.d keep)).1 F s0 (rs.take n)/\(openT (Dp.crash S.d keep)).1.s=(openT (Dp.crash S.d keep)).1.x:=by
 obtain ⟨t,l,r,rest,h1,h2,h3,h4⟩:=h.crash keep;obtain ⟨c1,c2,c3,_⟩:=h1.calm rfl rfl;rw [h2] at c3;exact ⟨c1,_,h3,h4,c3,by rw [c2];rfl⟩
theorem Log.twice (h:Log q S F s0 rs) (keep:List Int):openT (openT (Dp.crash S.d keep)).1.d=((openT (Dp.crash S.d keep)).1,0)/\Dp.crash (openT (Dp.crash S.d keep)).1.d keep=(openT (Dp.crash S.d keep)).1.d/\
 ∀k,openT (Dp.crash (openT (Dp.arm (Dp.crash S.d keep) k)).1.d keep)=((openT (Dp.crash S.d keep)).1,0):=by
 obtain ⟨t,l,r,rest,h1,_,_,_⟩:=h.crash keep;obtain ⟨c1,c2,c3,c4,c5,c6⟩:=h1.calm rfl rfl;have hv:=zdx (Dp.crash S.d keep);have hk:=hv.k rfl rfl;have hf0:=h1.f0;have hlx:=h1.lx
 have same:∀{E:Dk} {rest':List UInt8},Img q E (man S) F s0 t l r rest'->E.x=false->E.a=false->E.l=0->E.c=S.d.c->(∀n∈useT (man S),n≠segN (F+(l.length:Int))->get E.f n=get (Dp.crash S.d keep).f n)->openT E=((openT (Dp.crash S.d keep)).1,0):=by
  intro E rest' hE hx ha hl hc hf;obtain ⟨d1,d2,d3,d4,d5,d6⟩:=hE.calm hx ha;have hvE:=zdx E;have hkE:=hvE.k ha hx
  have ed:(openT E).1.d=(openT (Dp.crash S.d keep)).1.d:=by
   refine dk_ext d4.dr c4.dr (fun n=>?_) (by rw [hvE.c,hv.c,hc];rfl) (by rw [hkE.1,hk.1]) (by rw [hkE.2.2,hk.2.2,hl];rfl) (by rw [d5,c5]);rw [d6,c6]
   by_cases e:n=segN (F+(l.length:Int))
   · rw [if_pos e,if_pos e]
   · rw [if_neg e,if_neg e]
     by_cases hu:n∈useT (man S)
     · rw [if_pos hu,if_pos hu,hf n hu e]
     · rw [if_neg hu,if_neg hu]
  refine Prod.ext ?_ d1;show (openT E).1=(openT (Dp.crash S.d keep)).1;rw [d2,c2,ed]
 have hcr:∀{E:Dk} {rest':List UInt8},Img q E (man S) F s0 t l r rest'->(Dp.crash E keep).f=E.f:=fun hE=>zlZ _ _ hE.al
 have hXd:Dp.crash (openT (Dp.crash S.d keep)).1.d keep=(openT (Dp.crash S.d keep)).1.d:=by
  refine dk_ext (c4.dr.crash keep) c4.dr (fun n=>by rw [hcr c4]) rfl hk.1.symm (by rw [hk.2.2];rfl) c5.symm
 refine ⟨same c4 c5 hk.1 (by rw [hk.2.2];rfl) (by rw [hv.c];rfl) (fun n hu e=>by rw [c6,if_neg e,if_pos hu]),hXd,fun k=>?_⟩;have hA:Img q (Dp.arm (Dp.crash S.d keep) k) (man S) F s0 t l r rest:=h1.keep (right6 h1.dr k) (fun _ _=>rfl) h1.al;have hvA:=zdx (Dp.arm (Dp.crash S.d keep) k)
 rcases hA.open_ rfl with ⟨d1,d2,d3,d4,d5,d6⟩ | ⟨d1,d2,d3,rest',d4,d5⟩
 · refine same (d4.keep (d4.dr.crash keep) (fun n _=>by rw [hcr d4]) (by rw [hcr d4];exact d4.al)) rfl rfl rfl (by show (openT (Dp.arm (Dp.crash S.d keep) k)).1.d.c=_;rw [hvA.c];rfl) fun n hu e=>?_
   rw [hcr d4,d6,if_neg e,if_pos hu]
   rfl
 · refine same (d4.keep (d4.dr.crash keep) (fun n _=>by rw [hcr d4]) (by rw [hcr d4];exact d4.al)) rfl rfl rfl (by show (openT (Dp.arm (Dp.crash S.d keep) k)).1.d.c=_;rw [hvA.c];rfl) fun n hu e=>?_
   rw [hcr d4,d5 n hu e]
   rfl
end Lg
section
open Go.RowKit
theorem zfn (a b:Option Addr) (c d:Nat) (w:World):
 Calls Tryz.prog 17 #[.slice a 0 c,.slice b 0 d] w fun e w'=>e= .returned (.bool true)/\∃n,w'=w.drewN n:=by
 go_enter Tryz.func17,Tryz.ntmps17
 go_wp2_with fail;refine wp_loop_rounds 1 ?_;rw [rounds_succ];go_wp2_with fail;go_ret;exact ⟨rfl,0,rfl⟩
theorem zj2 (l:List Fp.Pr) (a b o1 o2 c d:Nat) (w:World) (hm:l.length<=9223372036854775807)
 (hc1:∀i,i<l.length->w.cell? ⟨a,o1+i*2,none⟩=some (.int .u8 ((l.getD i Fp.zero).k.toNat:Int))/\w.cell? ⟨a,o1+i*2+1,none⟩=some (.string (l.getD i Fp.zero).v))
 (hc2:∀i,i<l.length->w.cell? ⟨b,o2+i*2,none⟩=some (.int .u8 ((l.getD i Fp.zero).k.toNat:Int))/\w.cell? ⟨b,o2+i*2+1,none⟩=some (.string (l.getD i Fp.zero).v)):
 Calls Tryz.prog 17 #[.slice (some ⟨a,o1,none⟩) l.length c,.slice (some ⟨b,o2,none⟩) l.length d] w fun e w'=>e= .returned (.bool true)/\∃n,w'=w.drewN n:=by
 have HC1:=zid hc1;have HC2:=zid hc2;clear hc1 hc2;generalize l.length=len at*
 go_enter Tryz.func17,Tryz.ntmps17
 go_wp2_with fail
 go_loopw [5] (fun i wr=>∃k n:Nat,k<=len/\i= .int .i64 k/\wr=w.drewN n) (fun i _=>len-(intOf i).toNat)
 case atStart=>exact ⟨0,0,Nat.zero_le _,rfl,rfl⟩
 case round=>
  obtain ⟨k,n,hk,rfl,rfl⟩:=hrel
  by_cases hlt:k<len
  · obtain ⟨c0,c1⟩:=HC1.out k hlt
    obtain ⟨d0,d1⟩:=HC2.out k hlt
    generalize l.getD k Fp.zero=r at*;go_wp2_with fail
    go_quiet (fail)
    go_wp2_with fail
    go_roundw
    case rel=>exact ⟨k+1,_,by omega,by go_num,rfl⟩
    case measure=>simp [intOf];omega
  · go_wp2_with fail
    go_ret
    exact ⟨rfl,_,rfl⟩
theorem fsame_ex (v1 v2:Value) (l:List Fp.Pr) (w:World) (h1:zbv w v1 l) (h2:zbv w v2 l):
 Calls Tryz.prog 17 #[v1,v2] w fun e w'=>e= .returned (.bool true)/\∃n,w'=w.drewN n:=by
 obtain ⟨a,c,rfl,m1,_,h3⟩:=h1;obtain ⟨b,d,rfl,_,_,h4⟩:=h2
 rcases h3 with rfl | ⟨a',o1,rfl,h3⟩
 · exact zfn a b c d w
 · rcases h4 with rfl | ⟨b',o2,rfl,h4⟩
   · exact zfn _ b c d w
   · exact zj2 l a' b' o1 o2 c d w (by unfold maxLen at m1;omega) h3 h4
theorem zlJ (v1 v2:Value) (l:List Fp.Pr) (w:World) (h1:zbv w v1 l) (h2:zbv w v2 l):
 Calls Tryz.prog 17 #[v1,v2] w fun e w'=>e= .returned (.bool true)/\Below w.heap.size w w':=by
 have key:Calls Tryz.prog 17 #[v1,v2] w fun e w'=>e= .returned (.bool true)/\∃n,w'=w.drewN n:=by
  exact fsame_ex v1 v2 l w h1 h2
 refine key.mono ?_;rintro e w' ⟨rfl,n,rfl⟩;exact ⟨rfl,zad n⟩
end
namespace Ro
open Go.RowKit So Dsk Sto
theorem zkd {D:Dp.Dk} {k:Nat} (h:Bd D k):Bd (zal D).1.d (k+6):=by
 unfold zal
 split
 · exact (zaL h _).mono (by omega)
 · dsimp only
   have:=zdv (zaL h (segN 0)) (man ⟨(Dp.create D (segN 0)).1,1,[⟨0,0,0⟩],0,0,0,0⟩)
   split
   · exact this.mono (by omega)
   · exact this.mono (by omega)
theorem bd_endT {D:Dp.Dk} {k:Nat} (h:Bd D k) (n:ByteArray) (z:Nat) (hz:z<=9223372036854775807):Bd (Lg.endT D n z).1 (k+2):=by
 have h1:=zir h n z hz;unfold Lg.endT
 split
 · exact h1.mono (by omega)
 · exact (zcf h1 n).mono (by omega)
theorem zgh {D:Dp.Dk} {k:Nat} (h:Bd D k) (hk:k<=100000):Bd (Lg.openT D).1.d (k+k+6):=by
 rw [Lg.openT_eq]
 split
 · exact h.mono (by omega)
 · rcases hd:dat D nm with _ | s
   · dsimp only
     unfold Lg.freshT
     split
     · exact (Lg.bd_sweep h []).mono (by omega)
     · exact zkd (Lg.bd_sweep h [])
   · dsimp only
     rcases ht:Lg.toldT D s with _ | S
     · exact h.mono (by omega)
     · obtain ⟨hd,hne,_,hall⟩:=ze1 h hk ht
       have hS:Bd S.d k:=by rw [hd];exact h
       have hs:Bd (Lg.settT S).1 (k+k+2):=by
        unfold Lg.settT
        split
        · exact (Lg.bd_sweep hS _).mono (by omega)
        · exact bd_endT (Lg.bd_sweep hS _) _ _ (by
           have hm:So.lastG S∈S.g:=by
            unfold So.lastG;have hp:=List.length_pos_iff.2 hne;rw [List.getD_eq_getElem?_getD,List.getElem?_eq_getElem (by omega)];exact List.getElem_mem _
           have:=(hall _ hm).2
           omega)
       dsimp only
       split
       · exact hs.mono (by omega)
       · exact hs.mono (by omega)
end Ro
namespace Ro
open Go.RowKit So Dsk Sto Trm
theorem log_stb {q F:Int} {S:St} {s0:List Fp.Pr} {rs:List Rp.Rec} {m:Nat} (hL:Lg.Log q S F s0 rs) (hd:Bd S.d m) (hm:m<=300000) (hq:q<=1000):Stb S:=by
 have ho:=hL.mo;have hv0:1<=S.v:=ho.v0;have hv1:S.v<=1099511627776:=ho.v1;have hx:=hL.x;have hf:=hL.f0;have hxn:=hL.fx;have hb:=hL.bases;have hlo:=hL.lo;have hhi:=hL.hi
 have hg64:S.g.length<=64:=by
  have h1:(S.g.map fun g=>g.b).length<=64:=ho.n1
  rwa [List.length_map] at h1
 have hz:0<=S.z/\S.z<=65536:=by
  rcases ho.z with ⟨_,h2,_⟩ | ⟨_,h2,h3⟩
  · have h2:S.z=0:=h2
    omega
  · have h2:1<=S.z:=h2
    have h3:S.z<=65536:=h3
    omega
 refine ⟨zax hd hm,⟨by omega,by omega⟩,by omega,fun g hg=>?_,⟨by omega,by omega⟩,⟨by omega,by omega⟩,⟨hz.1,by omega⟩,ho.c⟩;obtain ⟨⟨a,b⟩,⟨c,d⟩,e,f⟩:=zfT hL g hg;exact ⟨⟨a,by omega⟩,⟨c,by omega⟩,e,by omega⟩
structure SureF (S X:St):Prop where
 ne:X.g≠[]
 b:Stb X
 f:floor X=floor S
 f0:0<=floor S
 lx:floor S<=X.x
 sx:S.s<=X.x
 xs:X.x<=S.x
 xe:X.s=X.x
 rd:∀o,floor S<=o->o<X.x->∃r,zco X o=(r,0)/\zco S o=(r,0)
 st:Lg.stateT X X.x=Lg.stateT S X.x
theorem zgu {q:Int} {n k:Nat} {S:St} (h:G13 q n k S) (hq:q<=1000) (hk:k<=400) (keep:List Int):(Lg.openT (Dp.crash S.d keep)).2=0/\SureF S (Lg.openT (Dp.crash S.d keep)).1:=by
 obtain ⟨F,s0,rs,hL,_⟩:=h.log;obtain ⟨h1,m,hm,hs,hX,he⟩:=hL.sure keep;have hB:=zgh (zcb h.d keep) (by omega);refine ⟨h1,?_⟩;generalize (Lg.openT (Dp.crash S.d keep)).1=X at*;have f1:=hL.fl;have f2:=hX.fl;have hx:=hL.x;have hx2:=hX.x;have hf0:=hL.f0;rw [List.length_take,Nat.min_eq_left hm] at hx2;refine ⟨hX.ne,log_stb hX hB (by omega) hq,by omega,by omega,by omega,by omega,by omega,he,fun o h1 h2=>?_,?_⟩
 · have e1:=hX.read (i:=(o-F).toNat) (by rw [List.length_take];omega)
   have e2:=hL.read (i:=(o-F).toNat) (by omega)
   rw [show F+((o-F).toNat:Int)=o by omega] at e1 e2;rw [List.getElem_take] at e1;exact ⟨_,e1,e2⟩
 · have e1:=hX.state (k:=m) (by rw [List.length_take];omega)
   have e2:=hL.state (k:=m) hm
   rw [<-hx2] at e1 e2;rw [e1,e2,List.take_take,Nat.min_self]
theorem sure14 (g:Pst) (w:World) (hg:g.Ok w):
 Calls Tryz.prog 5 #[g.val] w fun e w'=>e= .returned (.bool true)/\Below w.heap.size w w':=by
 have HG:=zid hg;have hq:=hg.q;have AW:=zid fun W:World=>zis W;have CD:=zid fun (W:World) (h:g.Ok W)=>zcH g W h;have H0:=zid (Hv.start (w:=w) |>.al #[.int .u8 g.q,.slice g.pa g.pn g.pc,.slice g.ka g.kn g.kc,.int .u8 g.fi,.int .u16 g.ps,.int .u8 g.tu,.int .u8 g.fu,.bool g.fd] 39);clear hg;unfold Pst.val at CD ⊢
 go_enter Tryz.func5,Tryz.ntmps5
 go_upto_region 1 with (fail);generalize w.alloc _=w0 at H0 ⊢;generalize w.heap.size=tp at H0 ⊢;obtain ⟨p0,p1,p2,p3,p4,p5,p6,p7⟩:=zcO (H0.out.at_ (t:=tp) mcs);go_wp2_with fail;refine (CD.out _ (HG.out.keep H0.out.w)).mono ?_;rintro e w1 ⟨a1,n1,c1,a2,n2,c2,S,a3,n3,c3,D,ok,rfl,b1,hok⟩;have H1:=zid (H0.out.keep b1);clear p0 p1 p2 p3 p4 p5 p6 p7 H0 CD;unfold zag zac;dsimp only;go_upto_region 2 with (fail);have H2:=zid ((H1.out.al #[.slice a1 n1 c1,.int .i64 S.d.c,.bool S.d.a,.int .i64 S.d.l,.bool S.d.x,.int .i64 S.v,.slice a2 n2 c2,.int .i64 S.x,.int .i64 S.s,.int .i64 S.z,.int .u32 S.c] 30).al #[.slice a3 n3 c3,.int .i64 D.c,.bool D.a,.int .i64 D.l,.bool D.x] 24);rw [World.size_alloc] at H2;generalize hA1:w1.alloc _=wa at H2 ⊢;generalize hA2:wa.alloc _=w2 at H2 ⊢;generalize w1.heap.size=ts at H2 ⊢
 cases ok with
 | false=>
  clear hok H1 hA1 hA2;go_wp2_with fail;refine (AW.out _).mono ?_;rintro e w3 ⟨rfl,b3⟩;have L3:=zid (H2.out.keep b3);clear b3;go_wp2_with fail;go_ret;exact ⟨rfl,L3.out.w⟩
 | true=>
  obtain ⟨⟨G,hSe,hl,hkl⟩,hD,hf,hs,hd⟩:=hok rfl;clear hok
  have hk:Below w1.heap.size w1 w2:=by rw [<-hA2, <-hA1];exact zdR w1 _ _
  have Q2:Hv w _ [(.slice a3 n3 c3,D.f),(.slice a1 n1 c1,S.d.f)] [(.slice a2 n2 c2,S.g)] w2:=⟨H2.out.c,fun p hp=>by
   rcases List.mem_cons.1 hp with rfl | hp
   · exact hd.keep hk
   · obtain rfl:=List.mem_singleton.1 hp
     exact hf.keep hk,fun p hp=>by
   obtain rfl:=List.mem_singleton.1 hp
   exact hs.keep hk,H2.out.w⟩
  have H3:=zid Q2;clear Q2 H2 H1 hA1 hA2 hf hs hd hSe hl hk
  have hBD:Bd D 4101:=by rw [hD];exact zcb G.d _
  obtain ⟨hE,hF⟩:=zgu G (by omega) (by decide) g.ks;rw [<-hD] at hE hF;have OP:=fun (a:Option Addr) (n c:Nat) (W:World) (h:IsL FL W (.slice a n c) D.f)=>zbd a n c D W 4101 h hBD (by decide);obtain ⟨⟨X,E⟩,hX⟩:∃R,Lg.openT D=R:=⟨_,rfl⟩;rw [hX] at OP hE hF;dsimp only at hE hF;subst hE;have hne:=G.ne;have hx40:=G.x;have FLS:=fun (a a':Option Addr) (n c n' c':Nat) (W:World) (h2:IsL Rts.SL W (.slice a' n' c') S.g)=>zcm (.slice a n c) (.slice a' n' c') S W h2 hne;have FLX:=fun (a a':Option Addr) (n c n' c':Nat) (W:World) (h2:IsL Rts.SL W (.slice a' n' c') X.g)=>zcm (.slice a n c) (.slice a' n' c') X W h2 hF.ne;rw [hF.f] at FLX;have hSB:=G.stb (by omega) (by decide) (by decide);have RS:=fun (a a':Option Addr) (n c n' c':Nat) (o:Int) (W:World) (h3:IsL FL W (.slice a n c) S.d.f) (h4:IsL Rts.SL W (.slice a' n' c') S.g)=>zdp a a' n c n' c' S o W h3 h4 hSB;have RX:=fun (a a':Option Addr) (n c n' c':Nat) (o:Int) (W:World) (h3:IsL FL W (.slice a n c) X.d.f) (h4:IsL Rts.SL W (.slice a' n' c') X.g)=>zdp a a' n c n' c' X o W h3 h4 hF.b;have SS:=fun (a a':Option Addr) (n c n' c':Nat) (W:World) (h3:IsL FL W (.slice a n c) S.d.f) (h4:IsL Rts.SL W (.slice a' n' c') S.g)=>zcU a a' n c n' c' S X.x W h3 h4 hne hSB hF.b.x.2;have SX:=fun (a a':Option Addr) (n c n' c':Nat) (W:World) (h3:IsL FL W (.slice a n c) X.d.f) (h4:IsL Rts.SL W (.slice a' n' c') X.g)=>zcU a a' n c n' c' X X.x W h3 h4 hF.ne hF.b hF.b.x.2;rw [hF.st] at SX;have SM:=zid fun (v1 v2:Value) (l:List Fp.Pr) (W:World) (h1:zbv W v1 l) (h2:zbv W v2 l)=>zlJ v1 v2 l W h1 h2;generalize Lg.stateT S X.x=L at SS SX;have HF:=zid hF;have hl1:floor S<=X.x:=hF.lx;have hl0:0<=floor S:=hF.f0;have hl2:X.x<=S.x:=hF.xs;have e1:decide (X.x<S.s)=false:=decide_eq_false (by have:=hF.sx;omega);have e2:decide (S.x<X.x)=false:=decide_eq_false (by omega)
  have e3:(X.s != X.x)=false:=by simp [hF.xe]
  have nS:=List.length_pos_iff.2 hne;have nX:=List.length_pos_iff.2 hF.ne;obtain ⟨fs,hfs⟩:∃fs,floor S=fs:=⟨_,rfl⟩;rw [hfs] at hl1 hl0;simp only [hfs] at FLS FLX;have HFE:=zid hfs;clear hfs;unfold zac at OP;unfold zag at FLS FLX RS RX SS SX;unfold RdVal za3 at RS RX;replace OP:=zid OP;replace FLS:=zid FLS;replace FLX:=zid FLX;replace RS:=zid RS;replace RX:=zid RX;replace SS:=zid SS;replace SX:=zid SX;clear hBD hX G hD hF hne hSB;obtain ⟨d0,d1,d2,d3,d4⟩:=zaa (H3.out.at_ (t:=ts+1) mcs);go_wp2_with fail;refine (OP.out _ _ _ _ (H3.out.fl (v:= .slice a3 n3 c3) mcs)).mono ?_;rintro e w4 ⟨a4,n4,c4,a5,n5,c5,rfl,ks⟩;have H4:=zid ((H3.out.st ks).al #[.slice a4 n4 c4,.int .i64 X.d.c,.bool X.d.a,.int .i64 X.d.l,.bool X.d.x,.int .i64 X.v,.slice a5 n5 c5,.int .i64 X.x,.int .i64 X.s,.int .i64 X.z,.int .u32 X.c] 30);have z2:((n2:Int)==0)=false:=beq_eq_false_iff_ne.2 (by have:=(H3.out.sl (v:= .slice a2 n2 c2) (l:=S.g) mcs).len.1;omega);have z5:((n5:Int)==0)=false:=beq_eq_false_iff_ne.2 (by have:n5=X.g.length:=ks.g.len.1;omega);clear ks d0 d1 d2 d3 d4 H3 OP nS nX;unfold zag;dsimp only;go_upto_region 5 with (fail);generalize w4.alloc _=w5 at H4 ⊢;generalize w4.heap.size=t4 at H4 ⊢
  have H5:Hv w [(t4,.cells #[.slice a4 n4 c4,.int .i64 X.d.c,.bool X.d.a,.int .i64 X.d.l,.bool X.d.x,.int .i64 X.v,.slice a5 n5 c5,.int .i64 X.x,.int .i64 X.s,.int .i64 X.z,.int .u32 X.c] 30 (0,0)),(ts,.cells #[.slice a1 n1 c1,.int .i64 S.d.c,.bool S.d.a,.int .i64 S.d.l,.bool S.d.x,.int .i64 S.v,.slice a2 n2 c2,.int .i64 S.x,.int .i64 S.s,.int .i64 S.z,.int .u32 S.c] 30 (0,0))] [(.slice a4 n4 c4,X.d.f),(.slice a1 n1 c1,S.d.f)] [(.slice a5 n5 c5,X.g),(.slice a2 n2 c2,S.g)] w5:=by
   refine ⟨fun p hp=>H4.out.c p ?_,fun p hp=>H4.out.f p ?_,fun p hp=>H4.out.g p hp,H4.out.w⟩
   · simp only [List.mem_cons,List.not_mem_nil,or_false] at hp ⊢
     rcases hp with hp | hp
     · exact .inl hp
     · exact .inr (.inr (.inl hp))
   · simp only [List.mem_cons,List.not_mem_nil,or_false] at hp ⊢
     rcases hp with hp | hp
     · exact .inl hp
     · exact .inr (.inr hp)
  have H5:=zid H5;clear H4;obtain ⟨⟨x0,x1,x2,x3,x4⟩,x5,x6,x7,x8,x9,x10⟩:=zab (H5.out.at_ (t:=t4) mcs);obtain ⟨⟨k0,k1,k2,k3,k4⟩,k5,k6,k7,k8,k9,k10⟩:=zab (H5.out.at_ (t:=ts) (mcm mcs));go_upto_region 11 with (fail)
  go_cut [8] (fun v wc=>v= .int .i64 fs/\Below w5.heap.size w5 wc)
  case first=>
   have I1:=zid (H5.out.sl (v:= .slice a2 n2 c2) (mcm mcs));have I2:=zid (H5.out.sl (v:= .slice a5 n5 c5) mcs);have hh1:=(Array.getElem?_eq_some_iff.1 (H5.out.at_ (t:=t4) mcs)).1;have hh2:=(Array.getElem?_eq_some_iff.1 (H5.out.at_ (t:=ts) (mcm mcs))).1;clear RS RX SS SX SM AW HF e1 e2 e3 z2 z5;have I1d:=zid (I1.out.keep (Below.refl _ _).drew);clear hh1 hh2
   go_region_with (first | (go_at_call 15;have hord:=LB7;refine (FLX.out a4 a5 n4 c4 n5 c5 _ (H7.out.sl mcs)).mono ?_;rintro e w7 ⟨rfl,q7⟩;have LB8:=zid (LB7.out.trans (q7.mono LB7.out.size));clear q7) | (go_at_call 15;refine (FLS.out a1 a2 n1 c1 n2 c2 _ I1d.out).mono ?_;rintro e w6 ⟨rfl,q6⟩;have LB7:=zid (show Below w5.heap.size w5 w6 from (Below.refl _ w5).drew.trans q6);clear q6;have H7:=zid (H5.out.keep LB7.out);have x':=zab (H7.out.at_ (t:=t4) mcs);obtain ⟨⟨x0',x1',x2',x3',x4'⟩,x5',x6',x7',x8',x9',x10'⟩:=x'))
   all_goals
    go_wp2_with fail
    go_meet
    case rel=>exact ⟨by simp,LB8.out⟩
  case rest=>
   obtain ⟨rfl,bc⟩:=hcut;have H6:=zid (H5.out.keep bc);clear bc H5 FLS FLX x0 x1 x2 x3 x4 x5 x6 x7 x8 x9 x10 k0 k1 k2 k3 k4 k5 k6 k7 k8 k9 k10;obtain ⟨f0,hf0⟩:∃f0:Nat,fs=(f0:Int):=⟨fs.toNat,by omega⟩;obtain ⟨d,hd⟩:∃d:Nat,X.x=(f0:Int)+(d:Int):=⟨(X.x-fs).toNat,by omega⟩;subst hf0
   have hd40:d<=40:=by omega
   have HD:=zid hd;clear hd;go_wp2_with fail
   go_loopw [9] (fun i wr=>∃k:Nat,k<=d/\i= .int .i64 ((f0+k:Nat):Int)/\Hid (Hv w [(t4,.cells #[.slice a4 n4 c4,.int .i64 X.d.c,.bool X.d.a,.int .i64 X.d.l,.bool X.d.x,.int .i64 X.v,.slice a5 n5 c5,.int .i64 X.x,.int .i64 X.s,.int .i64 X.z,.int .u32 X.c] 30 (0,0)),(ts,.cells #[.slice a1 n1 c1,.int .i64 S.d.c,.bool S.d.a,.int .i64 S.d.l,.bool S.d.x,.int .i64 S.v,.slice a2 n2 c2,.int .i64 S.x,.int .i64 S.s,.int .i64 S.z,.int .u32 S.c] 30 (0,0))] [(.slice a4 n4 c4,X.d.f),(.slice a1 n1 c1,S.d.f)] [(.slice a5 n5 c5,X.g),(.slice a2 n2 c2,S.g)] wr)) (fun i _=>f0+d-(intOf i).toNat)
   case atStart=>exact ⟨0,by omega,rfl,H6⟩
   case round=>
    clear H6;obtain ⟨k,hk,rfl,TH⟩:=hrel
    by_cases hlt:k<d
    · have hle:((f0+k:Nat):Int)<X.x:=by have:=HD.out;omega
      obtain ⟨⟨ra,rt,rd⟩,hr1,hr2⟩:=HF.out.rd ((f0+k:Nat):Int) (by rw [HFE.out];omega) hle
      have RX1:=fun (W:World) (h3:IsL FL W (.slice a4 n4 c4) X.d.f) (h4:IsL Rts.SL W (.slice a5 n5 c5) X.g)=>RX.out a4 a5 n4 c4 n5 c5 ((f0+k:Nat):Int) W h3 h4;have RS1:=fun (W:World) (h3:IsL FL W (.slice a1 n1 c1) S.d.f) (h4:IsL Rts.SL W (.slice a2 n2 c2) S.g)=>RS.out a1 a2 n1 c1 n2 c2 ((f0+k:Nat):Int) W h3 h4;rw [hr1] at RX1;rw [hr2] at RS1;dsimp only at RX1 RS1;obtain ⟨ii,hii⟩:∃ii:Int,((f0+k:Nat):Int)=ii:=⟨_,rfl⟩;rw [hii] at RX1 RS1 hle ⊢;replace RX1:=zid RX1;replace RS1:=zid RS1;have HII:=zid hii;have hwi:IntKind.i64.wrap (ii+1)=ii+1:=IntWalk.i64_in _ ⟨by omega,by omega⟩;obtain ⟨⟨x0,x1,x2,x3,x4⟩,x5,x6,x7,x8,x9,x10⟩:=zab (TH.out.at_ (t:=t4) mcs);clear hii hr1 hr2;go_wp2_with fail;refine (RX1.out _ (TH.out.fl mcs) (TH.out.sl mcs)).mono ?_;rintro e w6 ⟨rfl,b6⟩;have T6:=zid ((TH.out.keep b6).keep (zaC w6 (.cells #[.int .i64 ra,.int .i64 rt,.string rd] 49)));have R6:=zid (heap_alloc_new w6 (.cells #[.int .i64 ra,.int .i64 rt,.string rd] 49));clear x0 x1 x2 x3 x4 x5 x6 x7 x8 x9 x10 b6 TH RX1;go_upto_region 16 with (fail);generalize w6.alloc _=w7 at T6 R6 ⊢;generalize w6.heap.size=t6 at R6 ⊢;obtain ⟨⟨k0,k1,k2,k3,k4⟩,k5,k6,k7,k8,k9,k10⟩:=zab (T6.out.at_ (t:=ts) (mcm mcs));go_wp2_with fail;refine (RS1.out _ (T6.out.fl (mcm mcs)) (T6.out.sl (mcm mcs))).mono ?_;rintro e w8 ⟨rfl,b8⟩;have T8:=zid ((T6.out.keep b8).keep (zaC w8 (.cells #[.int .i64 ra,.int .i64 rt,.string rd] 49)));have R8:=zid (hkeep (hkeep R6.out b8) (zaC w8 (.cells #[.int .i64 ra,.int .i64 rt,.string rd] 49)));have Q8:=zid (heap_alloc_new w8 (.cells #[.int .i64 ra,.int .i64 rt,.string rd] 49));clear k0 k1 k2 k3 k4 k5 k6 k7 k8 k9 k10 b8 T6 R6 RS1;go_upto_region 17 with (fail);generalize w8.alloc _=w9 at T8 R8 Q8 ⊢;generalize w8.heap.size=t8 at Q8 ⊢;obtain ⟨p0,p1,p2⟩:=cells3 R8.out;obtain ⟨r0,r1,r2⟩:=cells3 Q8.out;go_wp2_with fail
      go_roundw
      case rel=>exact ⟨k+1,by omega,by congr 1;have:=HII.out;omega,T8⟩
      case measure=>have:=HII.out;simp [intOf];omega
    · obtain rfl:k=d:=by omega
      have hge:¬((f0+k:Nat):Int)<X.x:=by have:=HD.out;omega
      obtain ⟨ii,hii⟩:∃ii:Int,((f0+k:Nat):Int)=ii:=⟨_,rfl⟩;rw [hii] at hge ⊢;obtain ⟨⟨x0,x1,x2,x3,x4⟩,x5,x6,x7,x8,x9,x10⟩:=zab (TH.out.at_ (t:=t4) mcs);obtain ⟨⟨k0,k1,k2,k3,k4⟩,k5,k6,k7,k8,k9,k10⟩:=zab (TH.out.at_ (t:=ts) (mcm mcs));have hh1:=(Array.getElem?_eq_some_iff.1 (TH.out.at_ (t:=t4) mcs)).1;have hh2:=(Array.getElem?_eq_some_iff.1 (TH.out.at_ (t:=ts) (mcm mcs))).1;have hdl:decide ((f0:Int)<=X.x)=true:=decide_eq_true hl1;clear RX RS hii HF HFE hk hlt hl0 hl1 hl2 hd40;go_upto_region 19 with (fail)
      go_region_held3 (fun W=>(∀b o,b<wr.heap.size->W.cell? ⟨b,o,none⟩=wr.cell? ⟨b,o,none⟩)/\Below wr.heap.size wr W) (first | with_reducible assumption | with_reducible exact KW.dr _ | with_reducible exact KW.keep (by assumption) (Below.refl _ _).drew | with_reducible exact KW.keep (by assumption) (by assumption)) (first | (go_at_call 9;refine (AW.out _).mono ?_;rintro e w6 ⟨rfl,q5⟩;have s5:=KW.keep (by assumption) q5) | (go_at_call 18;have hord:=HPX;refine (SS.out _ _ _ _ _ _ _ (TH.out.fl (v:= .slice a1 n1 c1) (mcm mcs) |>.keep (KW.bel (by assumption))) (TH.out.sl (v:= .slice a2 n2 c2) (mcm mcs) |>.keep (KW.bel (by assumption)))).mono ?_;rintro e w6 ⟨pa,pn,pc,rfl,hpr,q5⟩;have HPR:=zid hpr;have s5:=KW.keep (by assumption) q5) | (go_at_call 18;refine (SX.out _ _ _ _ _ _ _ (TH.out.fl (v:= .slice a4 n4 c4) mcs |>.keep (KW.bel (by assumption))) (TH.out.sl (v:= .slice a5 n5 c5) mcs |>.keep (KW.bel (by assumption)))).mono ?_;rintro e w6 ⟨qa,qn,qc,rfl,hpx,q5⟩;have HPX:=zid hpx;have s5:=KW.keep (by assumption) q5) | (go_at_call 17;refine (SM.out _ _ L _ (by first | exact HPX.out | exact HPX.out.below (by assumption) (Nat.le_refl _)) (by first | exact HPR.out | exact HPR.out.below (by assumption) (Nat.le_refl _))).mono ?_;rintro e w6 ⟨rfl,q5⟩;have s5:=KW.keep (by assumption) q5))
      all_goals
       rename_i hh
       have LB:=zid (TH.out.w.trans ((KW.bel hh).mono TH.out.w.size));clear hh;go_wp2_with fail;go_ret;exact ⟨by first | rfl | simp,LB.out⟩
end Ro
end Go.Proofs.YtooipogbmfkeeaaGreat

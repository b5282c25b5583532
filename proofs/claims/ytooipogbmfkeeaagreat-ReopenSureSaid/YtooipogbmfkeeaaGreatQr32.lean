/-
  Parts of what the laws of this seat stand on:RoAwp,RoMap,StoClo.
-/
import Derived.Test.YtooipogbmfkeeaaGreatQr1
import Derived.Maps.OwnSet
import Derived.Test.YtooipogbmfkeeaaGreatQr11
import Derived.Test.YtooipogbmfkeeaaGreatQr18
import Derived.Test.YtooipogbmfkeeaaGreatQr22
import Derived.Test.YtooipogbmfkeeaaGreatQr31
import Derived.Test.YtooipogbmfkeeaaGreatQr6
set_option maxRecDepth 100000
set_option maxHeartbeats 6400000
namespace Go.Proofs.YtooipogbmfkeeaaGreat
namespace Ro
open Go.RowKit So Dp Lg
theorem lt_ms:Lt nm (segN 0):=by decide
theorem zkn {l:List Fl} {x y:ByteArray} {a b:Fl} (hu:Up l) (hlt:Lt x y) (ha:get l x=some a) (hb:get l y=some b) (hn:∀n,get l n≠none->n=x\/n=y):l=[a,b]:=by
 obtain ⟨a1,a2⟩:=get_mem ha;obtain ⟨b1,b2⟩:=get_mem hb;have hm:∀f∈l,f.n=x\/f.n=y:=fun f hf=>hn f.n (by rw [zdl hu hf];simp);have hne:x≠y:=hlt.ne;have hab:a≠b:=fun e=>hne (by rw [<-a2, <-b2,e])
 match l,hu,hm,a1,b1 with
 | [],_,_,a1,_=>cases a1
 | [c],_,_,a1,b1=>
  rw [List.mem_singleton] at a1 b1;exact absurd (a1.trans b1.symm) hab
 | c::d::t,hu,hm,a1,b1=>
  obtain ⟨u1,u2⟩:=List.pairwise_cons.1 hu;obtain ⟨u3,_⟩:=List.pairwise_cons.1 u2;have hcd:=u1 d mcs
  have hc:c.n=x:=by
   rcases hm c mcs with h | h
   · exact h
   · rcases hm d (mcm mcs) with h' | h'
     · rw [h,h'] at hcd;exact absurd hlt hcd.asymm
     · rw [h,h'] at hcd;exact absurd rfl hcd.ne
  have hd:d.n=y:=by
   rcases hm d (mcm mcs) with h' | h'
   · rw [hc,h'] at hcd;exact absurd rfl hcd.ne
   · exact h'
  have ht:t=[]:=by
   cases t with
   | nil=>rfl
   | cons e t=>
    have h1:=u1 e (mcm mcs);have h2:=u3 e mcs;rw [hc] at h1;rw [hd] at h2
    rcases hm e (mcm (mcm mcs)) with h' | h'
    · rw [h'] at h1;exact absurd rfl h1.ne
    · rw [h'] at h2;exact absurd rfl h2.ne
  subst ht
  have e1:a=c:=by
   simp only [List.mem_cons,List.not_mem_nil,or_false] at a1
   rcases a1 with h | h
   · exact h
   · rw [h,hd] at a2;exact absurd a2.symm hne
  have e2:b=d:=by
   simp only [List.mem_cons,List.not_mem_nil,or_false] at b1
   rcases b1 with h | h
   · rw [h,hc] at b2;exact absurd b2 hne
   · exact h
  rw [e1,e2]
def rA:Rp.Rec:=⟨0,0,⟨#[97,98]⟩⟩
theorem rA_ok:Rp.Ok rA:=⟨by decide,by decide,by decide,by decide,by decide⟩
theorem zjU:openT empty=zal empty:=by
 rw [openT_eq,if_neg (by decide)];show freshT empty=_;exact if_neg (by decide)
structure Aw14 (S0 S1 X Y:St):Prop where
 o:openT empty=(S0,0)
 g:S0.g=[⟨0,0,0⟩]
 a:So.append S0 100 rA=(S1,0)
 x:openT (crash S1.d [9,5])=(X,0)/\X.x=0
 y:openT (crash S1.d [9,99])=(Y,0)/\Y.x=1
 g0:Trm.G13 100 0 0 S0
 g1:Trm.G13 100 1 1 S1
theorem aw14:∃S0 S1 X Y,Aw14 S0 S1 X Y:=by
 obtain ⟨n1,n2,n3⟩:=Log.new (q:=100) (by decide);obtain ⟨_,_,c3⟩:=zfp (q:=100) (by decide);have hc:=zgd (D:=empty) ⟨rfl,rfl,rfl⟩;have G0:=Trm.G13.new (q:=100) (by decide);have G1:=G0.play (by decide) (by decide) (by decide) 0 ⟨0,0,0,⟨#[97,98]⟩⟩ (by decide)
 have ho:openT empty=((zal empty).1,0):=by rw [zjU];exact Prod.ext rfl n1
 generalize (zal empty).1=S0 at*;have hx0:S0.x=0:=n2.x
 have hlg:lastG S0=⟨0,0,0⟩:=by unfold lastG;rw [c3];rfl
 obtain ⟨f,f1,f2,f3⟩:∃f,get S0.d.f (segN 0)=some f/\f.d=⟨#[]⟩/\f.s=0:=by
  obtain ⟨t,l,r,e1,e2,e3,e4,e5,⟨f,f1,f2,f3⟩,e7,e8⟩:=n2.seg;have hr:r=[]:=(List.append_eq_nil_iff.1 e2.symm).2;subst hr;rw [hlg] at f1;have hf:=n2.dr.1 f (get_mem f1).1;have hd:f.d=⟨#[]⟩:=zdt.2 (by rw [f2];rfl);refine ⟨f,f1,hd,?_⟩;have h2:=hf.2;rw [hd] at h2;have h3:f.s<=((⟨#[]⟩:ByteArray).size:Int):=h2.2;have h4:((⟨#[]⟩:ByteArray).size:Int)=0:=rfl;omega
 have hfn:=(get_mem f1).2
 have hap:So.append S0 100 rA=({S0 with d:={S0.d with f:=withF S0.d.f ⟨segN 0,⟨(Rp.putB rA).toArray⟩,0⟩},g:=So.grown S0.g (Rp.putB rA).length,x:=S0.x+1},0):=by
  unfold So.append;rw [if_neg (fun h=>h ⟨rA_ok,by rw [hx0];rfl⟩),if_neg (by rw [hx0];decide),if_neg (by rw [hlg];decide)];unfold So.put;dsimp only;rw [hlg];have hA:=(hc.append (s:=⟨(Rp.putB rA).toArray⟩) f1).1;rw [hfn,f2,f3,show (⟨#[]⟩:ByteArray)++⟨(Rp.putB rA).toArray⟩=⟨(Rp.putB rA).toArray⟩ from ByteArray.mk_append_mk [] _] at hA;rw [hA];rw [if_neg (fun h=>h rfl)]
 have hok:=(Trm.app_ok n2 hc (by decide) (by omega) (by rw [c3];decide) rA_ok (by rw [hx0];rfl) (by omega)).2;rw [hap] at hok
 have hG1:Trm.G13 100 1 1 (So.append S0 100 rA).1:=by
  have e:playA 100 (0:Nat) S0 ⟨0,0,0,⟨#[97,98]⟩⟩=(So.append S0 100 rA).1:=by
   unfold playA;rw [if_neg (by decide),if_neg (by decide),if_neg (by decide),if_neg (by decide),hx0]
   rfl
  rw [<-e];exact G1
 rw [hap] at hG1
 have hb1:get (withF S0.d.f ⟨segN 0,⟨(Rp.putB rA).toArray⟩,0⟩) (segN 0)=some ⟨segN 0,⟨(Rp.putB rA).toArray⟩,0⟩:=by rw [zaZ n2.dr.2.1,if_pos rfl]
 obtain ⟨S1,hS1⟩:∃S1:St,{S0 with d:={S0.d with f:=withF S0.d.f ⟨segN 0,⟨(Rp.putB rA).toArray⟩,0⟩},g:=So.grown S0.g (Rp.putB rA).length,x:=S0.x+1}=S1:=⟨_,rfl⟩
 have hg1:S1.g=[⟨0,1,0+((Rp.putB rA).length:Int)⟩]:=by rw [<-hS1];show So.grown S0.g _=_;rw [c3];rfl
 have hx1:S1.d.x=false:=by rw [<-hS1];exact hc.x
 have hd1:get S1.d.f (segN 0)=some ⟨segN 0,⟨(Rp.putB rA).toArray⟩,0⟩:=by rw [<-hS1];exact hb1
 rw [hS1] at hap hok hG1;clear hS1 hb1;obtain ⟨a,a1,a2,a3⟩:=id hok.mf
 have hl:S1.d.f=[a,⟨segN 0,⟨(Rp.putB rA).toArray⟩,0⟩]:=zkn hok.dr.2.1 lt_ms a1 hd1 fun n hn=>by
  rcases hok.cl hx1 n hn with h | ⟨h,_⟩ | ⟨g,hg,h⟩
  · exact .inl h
  · exact absurd h (by decide)
  · rw [hg1,List.mem_singleton] at hg
    rw [hg] at h
    exact .inr h
 have h9:(Rp.putB rA).length=9:=by kernel_rfl
 have hrow:Rp.rowB [rA]=Rp.putB rA:=by kernel_rfl
 have han:=(get_mem a1).2
 have img:∀(j:Int) (r:List Rp.Rec) (rest:List UInt8),(left ⟨segN 0,⟨(Rp.putB rA).toArray⟩,0⟩ j).d.data.toList=Rp.rowB r++rest->Lg.Rest rest->(r=[]\/r=[rA])->Img 100 (crash S1.d [9,j]) (man S1) 0 [] [] [] r rest:=by
  intro j r rest h1 h2 h3
  have hml:(man S1).l=[0]:=by unfold man;dsimp only;rw [hg1];rfl
  refine ⟨hok.dr.crash _,hok.mo,by rw [hml];rfl,by rw [hml];rfl,by decide,?_,?_,?_,rfl,?_,h2,?_,?_,hok.mf.crash hok.dr _,zdh S1.d.f _⟩
  · rcases h3 with rfl | rfl
    · simp
    · intro x hx
      simp only [List.nil_append,List.mem_singleton] at hx
      rw [hx];exact rA_ok
  · rcases h3 with rfl | rfl
    · trivial
    · exact ⟨rfl,trivial⟩
  · rcases h3 with rfl | rfl<;>decide
  · refine ⟨left ⟨segN 0,⟨(Rp.putB rA).toArray⟩,0⟩ j,?_,h1,rfl⟩
    show get (zaw S1.d.f [9,j]) (segN 0)=_
    rw [hl];show get [left a 9,left _ j] (segN 0)=_;unfold Dp.get
    rw [List.find?_cons_of_neg (by
     show ¬decide ((left a 9).n=segN 0)=true;rw [show (left a 9).n=nm from han]
     exact fun h=>(lt_ms.ne) (by simpa using h)),List.find?_cons_of_pos (by
     show decide ((left _ j).n=segN 0)=true
     exact decide_eq_true rfl)]
  · rcases h3 with rfl | rfl
    · decide
    · rw [hrow,h9];decide
  · rcases hok.sn with ⟨_,_,h4,h5⟩ | ⟨h4,_⟩
    · exact .inl ⟨rfl,rfl,h4,h5⟩
    · exact absurd h4 (by decide)
 have lft:∀(j:Int) (m:Nat),(0+max 0 (min j (9-0)):Int).toNat=m->(left ⟨segN 0,⟨(Rp.putB rA).toArray⟩,0⟩ j).d.data.toList=(Rp.putB rA).take m:=by
  intro j m hm;show ((⟨(Rp.putB rA).toArray⟩:ByteArray).extract 0 _).data.toList=_;rw [show ((0:Int)+max 0 (min j (((⟨(Rp.putB rA).toArray⟩:ByteArray).size:Int)-0))).toNat=m from by rw [zam,h9];exact hm,ByteArray.data_extract]
  simp
 have i5:=img 5 [] ((Rp.putB rA).take 5) (by rw [lft 5 5 (by decide),Rp.rowB_nil];rfl) (.inr ⟨by
  intro e;have:=congrArg List.length e;rw [List.length_take,h9] at this
  exact absurd this (by decide),2,by decide,by
  have e:Rp.putB rA=Fr.fr (Rp.body rA):=by kernel_rfl
  rw [e]
  exact Gp.nxt_cut rA_ok (by rw [<-e,h9];decide)⟩) (.inl rfl)
 have i9:=img 99 [rA] [] (by rw [lft 99 9 (by decide),hrow,List.append_nil,List.take_of_length_le (by rw [h9];exact Nat.le_refl _)]) (.inl rfl) (.inr rfl);obtain ⟨u1,u2,_⟩:=i5.calm rfl rfl;obtain ⟨v1,v2,_⟩:=i9.calm rfl rfl;exact ⟨S0,S1,_,_,ho,c3,hap,⟨Prod.ext rfl u1,(congrArg St.x u2).trans rfl⟩,⟨Prod.ext rfl v1,(congrArg St.x v2).trans rfl⟩,G0,hG1⟩
end Ro
namespace Ro
open Go.RowKit Go.Maps
theorem zlp:Keyed Tryz.prog 9:=string_keyed Tryz.underlying9
theorem zkg (w:World):(zeroValue 4).run Tryz.prog w= .ok (.bool false) w:=by kernel_rfl
def zbK (w:World) (b n:Nat) (U:List ByteArray):Prop:=
 ∃D:DataW Unit,w.ownsMap Tryz.prog 9 (plainElem Tryz.prog 4) b n D/\∀s:ByteArray,D.atKey (.string s.data.toList) (.lit (.bool false))= .lit (.bool (open Classical in decide (s∈U)))
section
variable {w w':World} {b n:Nat} {U:List ByteArray}
theorem zbK.made (w:World):zbK (w.alloc (.map #[] 0)) w.heap.size 0 []:=⟨.map [],World.ownsMap_made _ _ _ _,fun s=>by simp;rfl⟩
theorem zbK.kept (h:zbK w b n U) {row:Option Nat} (hg:w.grownBy w' row) (hne:some b≠row):zbK w' b n U:=by
 obtain ⟨D,h1,h2⟩:=h;exact ⟨D,h1.kept hg hne,h2⟩
theorem zbK.keep (h:zbK w b n U) (k:Below w.heap.size w w'):zbK w' b n U:=h.kept (row:=none) ⟨k.os,k.tape,k.output,k.size,fun j hj _=>k.block j hj⟩ (by simp)
theorem zbK.lt (h:zbK w b n U):b<w.heap.size:=by obtain ⟨D,h1,_⟩:=h;exact h1.lt
theorem zbK.put {D:DataW Unit} (hD:IsMap D) (h2:∀s:ByteArray,D.atKey (.string s.data.toList) (.lit (.bool false))= .lit (.bool (open Classical in decide (s∈U)))) {s:ByteArray}
 (h1:w.ownsMap Tryz.prog 9 (plainElem Tryz.prog 4) b n (D.put (.string s.data.toList) (.lit (.bool true)))):zbK w b n (U++[s]):=by
 refine ⟨_,h1,fun r=>?_⟩
 by_cases e:r=s
 · subst e
   rw [atKey_put_same hD (by trivial)]
   simp
 · rw [atKey_put_other (fun h=>e (ByteArray.ext (Array.ext' (by injection h)))),h2]
   simp [e]
theorem zbK.look (h:zbK w b n U) {s:ByteArray} (hs:s.size<=maxLen):(Instr.lookup 98 (.map (some b)) (.string s) false).run Tryz.prog w= .ok (.bool (open Classical in decide (s∈U))) w:=by
 obtain ⟨D,h1,h2⟩:=h;obtain ⟨v,ps,hr,hv⟩:=h1.lookup zlp Tryz.underlying98 (zkg w) (zd:= .lit (.bool false)) (zp:=[]) (plainElem_bool Tryz.underlying4 false) (WideMaps.keyOf_string_mk Tryz.underlying9 hs);rw [h2] at hv
 have:v= .bool (open Classical in decide (s∈U)):=by
  unfold plainElem at hv;rw [Tryz.underlying4] at hv
  cases v<;>simp at hv
  exact congrArg Value.bool hv.1
 rw [hr,this]
theorem nil_look (w:World) {s:ByteArray} (hs:s.size<=maxLen):(Instr.lookup 98 (.map none) (.string s) false).run Tryz.prog w= .ok (.bool false) w:=
 look_nil false zlp Tryz.underlying98 (zkg w) (WideMaps.keyOf_string_mk Tryz.underlying9 hs)
end
theorem zcc (w:World) {ops:Array Oper} {rest:List Oper} {o:Oper} {a:Act} {Q:Exit->Act->World->Prop}
 (hg:o.guard=none) (m x v:Operand) (hop:o.op=Op.mapUpdate 98 m x v\/o.op=Op.insert 98 m x v)
 (b n:Nat) (U:List ByteArray) (hm:a.eval m= .map (some b)) (h:zbK w b n U) (hn:n<maxLen) (s:ByteArray) (hx:a.eval x= .string s) (hs:s.size<=maxLen) (hv:a.eval v= .bool true)
 (hK:∀w',zbK w' b (n+1) (U++[s])->w.grownBy w' (some b)->wpList Tryz.prog ops Q rest (a.put o.dst undef) w'):
 wpList Tryz.prog ops Q (o::rest) a w:=by
 refine wpList_plain hg fun K' hK'=>?_;obtain ⟨D,h1,h2⟩:=h;obtain ⟨w',hrun,r1,r2⟩:=h1.update zlp Tryz.underlying98 hn (WideMaps.keyOf_string_mk Tryz.underlying9 hs) (plainElem_bool Tryz.underlying4 true);have hQ:=hK' _ _ (hK w' (zbK.put h1.isMap h2 r1) r2);unfold Oper.wp
 rcases hop with hop | hop<;>simp [execOp,hop,hm,hx,hv,hrun,Result.andThen]<;>exact hQ
def zcK (w:World) (v:Value) (U:List ByteArray):Prop:=(v= .map none/\U=[])\/ ∃b n,v= .map (some b)/\zbK w b n U
theorem zcK.kept {w w':World} {v:Value} {U:List ByteArray} (h:zcK w v U) {row:Option Nat} (hg:w.grownBy w' row) (hne:∀b,v= .map (some b)->some b≠row):zcK w' v U:=by
 rcases h with h | ⟨b,n,rfl,h⟩
 · exact .inl h
 · exact .inr ⟨b,n,rfl,h.kept hg (hne b rfl)⟩
theorem zcK.keep {w w':World} {v:Value} {U:List ByteArray} (h:zcK w v U) (k:Below w.heap.size w w'):zcK w' v U:=by
 rcases h with h | ⟨b,n,rfl,h⟩
 · exact .inl h
 · exact .inr ⟨b,n,rfl,h.keep k⟩
theorem zcK.lt {w:World} {v:Value} {U:List ByteArray} (h:zcK w v U):∀b,v= .map (some b)->b<w.heap.size:=fun b e=>by
 rcases h with ⟨h,_⟩ | ⟨b',n,rfl,h⟩
 · rw [h] at e;cases e
 · injection e with e;injection e with e;rw [<-e];exact h.lt
theorem zcK.look {w:World} {v:Value} {U:List ByteArray} (h:zcK w v U) {s:ByteArray} (hs:s.size<=maxLen):(Instr.lookup 98 v (.string s) false).run Tryz.prog w= .ok (.bool (open Classical in decide (s∈U))) w:=by
 rcases h with ⟨rfl,rfl⟩ | ⟨b,n,rfl,h⟩
 · rw [nil_look w hs];simp
 · exact h.look hs
theorem zcK.yes {w:World} {v:Value} {U:List ByteArray} (h:zcK w v U) {s:ByteArray} (hs:s.size<=maxLen) (hu:s∈U):(Instr.lookup 98 v (.string s) false).run Tryz.prog w= .ok (.bool true) w:=by
 rw [h.look hs];simp [hu]
theorem zcK.no {w:World} {v:Value} {U:List ByteArray} (h:zcK w v U) {s:ByteArray} (hs:s.size<=maxLen) (hu:s∉U):(Instr.lookup 98 v (.string s) false).run Tryz.prog w= .ok (.bool false) w:=by
 rw [h.look hs];simp [hu]
end Ro
namespace Sto
open Go.RowKit So Dsk Rts
theorem dk_s {w:World} {fv:Value} {l0:List Dp.Fl} {R:Dp.Dk×Int} {e:Ending} {w':World} (h:zgi w fv l0 R e w') (hv:IsL FL w fv l0) (hS:Sm R.1):za2 w fv R e w':=by
 obtain ⟨v,rfl,h⟩:=h
 obtain ⟨a,n,c,rfl⟩:∃a n c,v= .slice a n c:=by
  rcases h.k with ⟨e1,_⟩ | k
  · obtain ⟨a,c,h,_⟩:=hv;exact ⟨a,_,c,e1.trans h⟩
  · exact Dsk.own_slice k
 refine ⟨a,n,c,rfl,?_,?_,h.w⟩
 · rcases h.k with ⟨e1,e2⟩ | hk
   · rw [e1,e2];exact hv.keep h.w
   · exact hk.is (by have:=hS.n;unfold maxLen;omega) hS.flb
 · intro t ht hs
   rcases h.k with ⟨e1,_⟩ | hk
   · rw [e1];exact hs
   · exact za7 hk ht
section
variable {D:Dp.Dk} {k:Nat} {fv:Value} {w:World}
theorem create_s (h:Bd D k) (hk:k<=200000) (n:ByteArray) (hn:n.size<=3000) (hv:IsL FL w fv D.f):Calls Tryz.prog 116 #[zac fv D,.string n] w (za2 w fv (Dp.create D n)):=
 (zj7 fv D n w hv (zax h (by omega)) (by omega)).mono fun _ _ r=>dk_s r hv (zax (zaL h n) (by omega))
theorem append_s (h:Bd D k) (hk:k<=200000) (n s:ByteArray) (hs:s.size<=3000) (hv:IsL FL w fv D.f):Calls Tryz.prog 161 #[zac fv D,.string n,.string s] w (za2 w fv (Dp.append D n s)):=
 (zkf fv D n s w hv (zax h (by omega)) (by omega)).mono fun _ _ r=>dk_s r hv (zax (zbH h n hs) (by omega))
theorem sync_s (h:Bd D k) (hk:k<=200000) (n:ByteArray) (hv:IsL FL w fv D.f):Calls Tryz.prog 56 #[zac fv D,.string n] w (za2 w fv (Dp.sync D n)):=
 (sync_any fv D n w hv (zax h (by omega))).mono fun _ _ r=>dk_s r hv (zax (zcf h n) (by omega))
theorem rename_s (h:Bd D k) (hk:k<=200000) (n m:ByteArray) (hm:m.size<=3000) (hv:IsL FL w fv D.f):Calls Tryz.prog 164 #[zac fv D,.string n,.string m] w (za2 w fv (Dp.rename D n m)):=
 (zjJ fv D n m w hv (zax h (by omega)) (by omega)).mono fun _ _ r=>dk_s r hv (zax (zeU h n hm) (by omega))
theorem zgb (h:Bd D k) (hk:k<=200000) (n:ByteArray) (hv:IsL FL w fv D.f):Calls Tryz.prog 84 #[zac fv D,.string n] w (za2 w fv (Dp.delete D n)):=
 (zj6 fv D n w hv (zax h (by omega))).mono fun _ _ r=>dk_s r hv (zax (zaB h n) (by omega))
end
theorem zdP {w W W':World} {fv fv':Value} {D':Dp.Dk} (b:Below w.heap.size w W) (k:DkS W fv D' fv' W') {t:Nat} (h1:w.heap.size<=t) (h2:t<W.heap.size) (hs:Sep fv t) (x y z u q:Value):DkS w fv D' fv' (set5 W' t x y z u q):=
 ⟨IsL.set5 k.f (k.s t h2 hs) x y z u q,fun j hj hsj=>k.s j (Nat.lt_of_lt_of_le hj b.size) hsj,zai (b.trans (k.w.mono b.size)) h1 x y z u q⟩
def Stp (N:Nat) (caps:Array Value) (fv:Value) (D:Dp.Dk) (R:Dp.Dk×Int) (w:World):Prop:=
 (∀args w,(callFunc N args).run Tryz.prog w= .ok (.enter N args) w)/\∀W,Below w.heap.size w W->Calls Tryz.prog N (#[zac fv D]++caps) W (za2 W fv R)
theorem zeJ (n:ByteArray) (w:World):Calls Tryz.prog 86 #[.string n] w fun e w'=>e= .returned (.func (.func 115) #[] #[.pointer (some ⟨w.heap.size,0,none⟩)])/\w'=w.alloc (.cells #[.string n] 9):=by
 have hmf:=Dsk.made_func
 go_enter Tryz.func86,Tryz.ntmps86
 go_wp2_with fail;go_ret;exact ⟨rfl,rfl⟩
theorem created1 (fa:Option Addr) (fn fc:Nat) (D:Dp.Dk) (n:ByteArray) (b:Nat) (R:Dp.Dk×Int) (w:World) (hv:IsL FL w (.slice fa fn fc) D.f) (hb:w.heap[b]?=some (.cells #[.string n] 9 (0,0)))
 (C:∀W,Below w.heap.size w W->Calls Tryz.prog 116 #[zac (.slice fa fn fc) D,.string n] W (za2 W (.slice fa fn fc) R)):
 Calls Tryz.prog 115 #[zac (.slice fa fn fc) D,.pointer (some ⟨b,0,none⟩)] w (za2 w (.slice fa fn fc) R):=by
 obtain ⟨g0,g1,gb,gs⟩:=zaR w #[.slice fa fn fc,.int .i64 D.c,.bool D.a,.int .i64 D.l,.bool D.x] #[.slice none 0 0,.int .i64 0,.bool false,.int .i64 0,.bool false] 24 24;have HG:=zid g1;have HB:=zid gb;have HS:=zid (Array.getElem?_eq_some_iff.1 g1).1;have SP:=zid (show Sep (.slice fa fn fc) (w.heap.size+1) from IsL.sep_new hv (by omega));have HN:=(za4 (hkeep hb gb)).1;have HC:=zid C;unfold zac at HC ⊢;clear hv hb C g0 g1 gb gs
 go_enter Tryz.func115,Tryz.ntmps115
 go_wp2_with fail;generalize World.alloc (World.alloc w _) _=w0 at HG HB HS HN ⊢;refine (HC.out _ HB.out).mono ?_;rintro e w1 ⟨ga,gn,gc,rfl,kk⟩;obtain ⟨q0,q1,q2,q3,q4⟩:=zaa (hkeep HG.out kk.w);obtain ⟨qf0,qf1,qf2,qf3,qf4⟩:=zae (hkeep HG.out kk.w);have LY:=zid (zdP HB.out kk (t:=w.heap.size+1) (by omega) HS.out SP.out (.slice ga gn gc) (.int .i64 R.1.c) (.bool R.1.a) (.int .i64 R.1.l) (.bool R.1.x));clear kk;unfold zac;go_wp2_with fail;refine bodyPost_ret (v:= .tuple #[.agg #[.slice ga gn gc,.int .i64 R.1.c,.bool R.1.a,.int .i64 R.1.l,.bool R.1.x],.int .i64 R.2]) (by simp [results,Tryz.results115,go_sem,q0,q1,q2,q3,q4]) rfl ?_;exact ⟨_,_,_,rfl,LY.out⟩
theorem zih (n:ByteArray) (w:World):Calls Tryz.prog 144 #[.string n] w fun e w'=>e= .returned (.func (.func 159) #[] #[.pointer (some ⟨w.heap.size,0,none⟩)])/\w'=w.alloc (.cells #[.string n] 9):=by
 have hmf:=Dsk.made_func
 go_enter Tryz.func144,Tryz.ntmps144
 go_wp2_with fail;go_ret;exact ⟨rfl,rfl⟩
theorem deleted1 (fa:Option Addr) (fn fc:Nat) (D:Dp.Dk) (n:ByteArray) (b:Nat) (R:Dp.Dk×Int) (w:World) (hv:IsL FL w (.slice fa fn fc) D.f) (hb:w.heap[b]?=some (.cells #[.string n] 9 (0,0)))
 (C:∀W,Below w.heap.size w W->Calls Tryz.prog 84 #[zac (.slice fa fn fc) D,.string n] W (za2 W (.slice fa fn fc) R)):
 Calls Tryz.prog 159 #[zac (.slice fa fn fc) D,.pointer (some ⟨b,0,none⟩)] w (za2 w (.slice fa fn fc) R):=by
 obtain ⟨g0,g1,gb,gs⟩:=zaR w #[.slice fa fn fc,.int .i64 D.c,.bool D.a,.int .i64 D.l,.bool D.x] #[.slice none 0 0,.int .i64 0,.bool false,.int .i64 0,.bool false] 24 24;have HG:=zid g1;have HB:=zid gb;have HS:=zid (Array.getElem?_eq_some_iff.1 g1).1;have SP:=zid (show Sep (.slice fa fn fc) (w.heap.size+1) from IsL.sep_new hv (by omega));have HN:=(za4 (hkeep hb gb)).1;have HC:=zid C;unfold zac at HC ⊢;clear hv hb C g0 g1 gb gs
 go_enter Tryz.func159,Tryz.ntmps159
 go_wp2_with fail;generalize World.alloc (World.alloc w _) _=w0 at HG HB HS HN ⊢;refine (HC.out _ HB.out).mono ?_;rintro e w1 ⟨ga,gn,gc,rfl,kk⟩;obtain ⟨q0,q1,q2,q3,q4⟩:=zaa (hkeep HG.out kk.w);obtain ⟨qf0,qf1,qf2,qf3,qf4⟩:=zae (hkeep HG.out kk.w);have LY:=zid (zdP HB.out kk (t:=w.heap.size+1) (by omega) HS.out SP.out (.slice ga gn gc) (.int .i64 R.1.c) (.bool R.1.a) (.int .i64 R.1.l) (.bool R.1.x));clear kk;unfold zac;go_wp2_with fail;refine bodyPost_ret (v:= .tuple #[.agg #[.slice ga gn gc,.int .i64 R.1.c,.bool R.1.a,.int .i64 R.1.l,.bool R.1.x],.int .i64 R.2]) (by simp [results,Tryz.results159,go_sem,q0,q1,q2,q3,q4]) rfl ?_;exact ⟨_,_,_,rfl,LY.out⟩
theorem zjq (n:ByteArray) (w:World):Calls Tryz.prog 147 #[.string n] w fun e w'=>e= .returned (.func (.func 162) #[] #[.pointer (some ⟨w.heap.size,0,none⟩)])/\w'=w.alloc (.cells #[.string n] 9):=by
 have hmf:=Dsk.made_func
 go_enter Tryz.func147,Tryz.ntmps147
 go_wp2_with fail;go_ret;exact ⟨rfl,rfl⟩
theorem synced1 (fa:Option Addr) (fn fc:Nat) (D:Dp.Dk) (n:ByteArray) (b:Nat) (R:Dp.Dk×Int) (w:World) (hv:IsL FL w (.slice fa fn fc) D.f) (hb:w.heap[b]?=some (.cells #[.string n] 9 (0,0)))
 (C:∀W,Below w.heap.size w W->Calls Tryz.prog 56 #[zac (.slice fa fn fc) D,.string n] W (za2 W (.slice fa fn fc) R)):
 Calls Tryz.prog 162 #[zac (.slice fa fn fc) D,.pointer (some ⟨b,0,none⟩)] w (za2 w (.slice fa fn fc) R):=by
 obtain ⟨g0,g1,gb,gs⟩:=zaR w #[.slice fa fn fc,.int .i64 D.c,.bool D.a,.int .i64 D.l,.bool D.x] #[.slice none 0 0,.int .i64 0,.bool false,.int .i64 0,.bool false] 24 24;have HG:=zid g1;have HB:=zid gb;have HS:=zid (Array.getElem?_eq_some_iff.1 g1).1;have SP:=zid (show Sep (.slice fa fn fc) (w.heap.size+1) from IsL.sep_new hv (by omega));have HN:=(za4 (hkeep hb gb)).1;have HC:=zid C;unfold zac at HC ⊢;clear hv hb C g0 g1 gb gs
 go_enter Tryz.func162,Tryz.ntmps162
 go_wp2_with fail;generalize World.alloc (World.alloc w _) _=w0 at HG HB HS HN ⊢;refine (HC.out _ HB.out).mono ?_;rintro e w1 ⟨ga,gn,gc,rfl,kk⟩;obtain ⟨q0,q1,q2,q3,q4⟩:=zaa (hkeep HG.out kk.w);obtain ⟨qf0,qf1,qf2,qf3,qf4⟩:=zae (hkeep HG.out kk.w);have LY:=zid (zdP HB.out kk (t:=w.heap.size+1) (by omega) HS.out SP.out (.slice ga gn gc) (.int .i64 R.1.c) (.bool R.1.a) (.int .i64 R.1.l) (.bool R.1.x));clear kk;unfold zac;go_wp2_with fail;refine bodyPost_ret (v:= .tuple #[.agg #[.slice ga gn gc,.int .i64 R.1.c,.bool R.1.a,.int .i64 R.1.l,.bool R.1.x],.int .i64 R.2]) (by simp [results,Tryz.results162,go_sem,q0,q1,q2,q3,q4]) rfl ?_;exact ⟨_,_,_,rfl,LY.out⟩
theorem zhn (n s:ByteArray) (w:World):Calls Tryz.prog 145 #[.string n,.string s] w fun e w'=>e= .returned (.func (.func 160) #[] #[.pointer (some ⟨w.heap.size,0,none⟩),.pointer (some ⟨w.heap.size+1,0,none⟩)])/\w'=(w.alloc (.cells #[.string n] 9)).alloc (.cells #[.string s] 9):=by
 have hmf:=Dsk.made_func
 go_enter Tryz.func145,Tryz.ntmps145
 go_wp2_with fail;go_ret;exact ⟨by simp,rfl⟩
theorem zmc (fa:Option Addr) (fn fc:Nat) (D:Dp.Dk) (n s:ByteArray) (b b2:Nat) (R:Dp.Dk×Int) (w:World) (hv:IsL FL w (.slice fa fn fc) D.f) (hb:w.heap[b]?=some (.cells #[.string n] 9 (0,0))) (hb2:w.heap[b2]?=some (.cells #[.string s] 9 (0,0)))
 (C:∀W,Below w.heap.size w W->Calls Tryz.prog 161 #[zac (.slice fa fn fc) D,.string n,.string s] W (za2 W (.slice fa fn fc) R)):
 Calls Tryz.prog 160 #[zac (.slice fa fn fc) D,.pointer (some ⟨b,0,none⟩),.pointer (some ⟨b2,0,none⟩)] w (za2 w (.slice fa fn fc) R):=by
 obtain ⟨g0,g1,gb,gs⟩:=zaR w #[.slice fa fn fc,.int .i64 D.c,.bool D.a,.int .i64 D.l,.bool D.x] #[.slice none 0 0,.int .i64 0,.bool false,.int .i64 0,.bool false] 24 24;have HG:=zid g1;have HB:=zid gb;have HS:=zid (Array.getElem?_eq_some_iff.1 g1).1;have SP:=zid (show Sep (.slice fa fn fc) (w.heap.size+1) from IsL.sep_new hv (by omega));have HN:=(za4 (hkeep hb gb)).1;have HN2:=(za4 (hkeep hb2 gb)).1;have HC:=zid C;unfold zac at HC ⊢;clear hv hb hb2 C g0 g1 gb gs
 go_enter Tryz.func160,Tryz.ntmps160
 go_wp2_with fail;generalize World.alloc (World.alloc w _) _=w0 at HG HB HS HN HN2 ⊢;refine (HC.out _ HB.out).mono ?_;rintro e w1 ⟨ga,gn,gc,rfl,kk⟩;obtain ⟨q0,q1,q2,q3,q4⟩:=zaa (hkeep HG.out kk.w);obtain ⟨qf0,qf1,qf2,qf3,qf4⟩:=zae (hkeep HG.out kk.w);have LY:=zid (zdP HB.out kk (t:=w.heap.size+1) (by omega) HS.out SP.out (.slice ga gn gc) (.int .i64 R.1.c) (.bool R.1.a) (.int .i64 R.1.l) (.bool R.1.x));clear kk;unfold zac;go_wp2_with fail;refine bodyPost_ret (v:= .tuple #[.agg #[.slice ga gn gc,.int .i64 R.1.c,.bool R.1.a,.int .i64 R.1.l,.bool R.1.x],.int .i64 R.2]) (by simp [results,Tryz.results160,go_sem,q0,q1,q2,q3,q4]) rfl ?_;exact ⟨_,_,_,rfl,LY.out⟩
theorem zh1 (n s:ByteArray) (w:World):Calls Tryz.prog 148 #[.string n,.string s] w fun e w'=>e= .returned (.func (.func 163) #[] #[.pointer (some ⟨w.heap.size,0,none⟩),.pointer (some ⟨w.heap.size+1,0,none⟩)])/\w'=(w.alloc (.cells #[.string n] 9)).alloc (.cells #[.string s] 9):=by
 have hmf:=Dsk.made_func
 go_enter Tryz.func148,Tryz.ntmps148
 go_wp2_with fail;go_ret;exact ⟨by simp,rfl⟩
theorem renamed1 (fa:Option Addr) (fn fc:Nat) (D:Dp.Dk) (n s:ByteArray) (b b2:Nat) (R:Dp.Dk×Int) (w:World) (hv:IsL FL w (.slice fa fn fc) D.f) (hb:w.heap[b]?=some (.cells #[.string n] 9 (0,0))) (hb2:w.heap[b2]?=some (.cells #[.string s] 9 (0,0)))
 (C:∀W,Below w.heap.size w W->Calls Tryz.prog 164 #[zac (.slice fa fn fc) D,.string n,.string s] W (za2 W (.slice fa fn fc) R)):
 Calls Tryz.prog 163 #[zac (.slice fa fn fc) D,.pointer (some ⟨b,0,none⟩),.pointer (some ⟨b2,0,none⟩)] w (za2 w (.slice fa fn fc) R):=by
 obtain ⟨g0,g1,gb,gs⟩:=zaR w #[.slice fa fn fc,.int .i64 D.c,.bool D.a,.int .i64 D.l,.bool D.x] #[.slice none 0 0,.int .i64 0,.bool false,.int .i64 0,.bool false] 24 24;have HG:=zid g1;have HB:=zid gb;have HS:=zid (Array.getElem?_eq_some_iff.1 g1).1;have SP:=zid (show Sep (.slice fa fn fc) (w.heap.size+1) from IsL.sep_new hv (by omega));have HN:=(za4 (hkeep hb gb)).1;have HN2:=(za4 (hkeep hb2 gb)).1;have HC:=zid C;unfold zac at HC ⊢;clear hv hb hb2 C g0 g1 gb gs
 go_enter Tryz.func163,Tryz.ntmps163
 go_wp2_with fail;generalize World.alloc (World.alloc w _) _=w0 at HG HB HS HN HN2 ⊢;refine (HC.out _ HB.out).mono ?_;rintro e w1 ⟨ga,gn,gc,rfl,kk⟩;obtain ⟨q0,q1,q2,q3,q4⟩:=zaa (hkeep HG.out kk.w);obtain ⟨qf0,qf1,qf2,qf3,qf4⟩:=zae (hkeep HG.out kk.w);have LY:=zid (zdP HB.out kk (t:=w.heap.size+1) (by omega) HS.out SP.out (.slice ga gn gc) (.int .i64 R.1.c) (.bool R.1.a) (.int .i64 R.1.l) (.bool R.1.x));clear kk;unfold zac;go_wp2_with fail;refine bodyPost_ret (v:= .tuple #[.agg #[.slice ga gn gc,.int .i64 R.1.c,.bool R.1.a,.int .i64 R.1.l,.bool R.1.x],.int .i64 R.2]) (by simp [results,Tryz.results163,go_sem,q0,q1,q2,q3,q4]) rfl ?_;exact ⟨_,_,_,rfl,LY.out⟩
end Sto
end Go.Proofs.YtooipogbmfkeeaaGreat

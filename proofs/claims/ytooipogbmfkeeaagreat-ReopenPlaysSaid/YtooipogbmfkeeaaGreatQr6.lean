/-
  Parts of what the laws of this seat stand on:LogCrash,LogOpen,LogVia,LogLaw,Base.
-/
import Derived.Test.YtooipogbmfkeeaaGreatQr1
import Derived.Below
import Derived.Deep.QuietTactic
import Derived.Laws.NewBlocks
import Derived.Laws.Rows
import Derived.Lib.Hide
import Derived.Test.YtooipogbmfkeeaaGreatProg
import Derived.Test.YtooipogbmfkeeaaGreatQr3
import Derived.Test.YtooipogbmfkeeaaGreatQr5
import Derived.WalkKit
import Derived.WalkSpells
set_option maxRecDepth 100000
set_option maxHeartbeats 6400000
namespace Go.Proofs.YtooipogbmfkeeaaGreat
namespace Lg
open Dp So
variable {q F:Int} {S:St} {s0:List Fp.Pr} {rs:List Rp.Rec}
theorem zeD:∀(l:List Fl) (k:List Int) (n:ByteArray),(get l n=none->get (zaw l k) n=none)/\∀f,get l n=some f->∃i,get (zaw l k) n=some (left f i)
 | [],_,_=>⟨fun _=>rfl,fun f h=>by cases h⟩
 | g::l,k,n=>by
  obtain ⟨i,k',e⟩:∃i k',zaw (g::l) k=left g i::zaw l k':=by
   cases k with
   | nil=>exact ⟨0,[],rfl⟩
   | cons a k=>exact ⟨a,k,rfl⟩
  obtain ⟨h1,h2⟩:=zeD l k' n;rw [e];unfold Dp.get at*
  by_cases hn:g.n=n
  · have hn':(left g i).n=n:=hn
    rw [List.find?_cons_of_pos (by simpa using hn),List.find?_cons_of_pos (by simpa using hn')]
    exact ⟨fun h=>(by cases h),fun f h=>⟨i,by rw [<-Option.some.inj h]⟩⟩
  · have hn':¬(left g i).n=n:=hn
    rw [List.find?_cons_of_neg (by simpa using hn),List.find?_cons_of_neg (by simpa using hn')]
    exact ⟨h1,h2⟩
theorem zg4 {f:Fl} (hs:0<=f.s/\f.s<=(f.d.size:Int)) (i:Int):∃m:Nat,f.s<=(m:Int)/\m<=f.d.size/\(left f i).n=f.n/\(left f i).d.data.toList=f.d.data.toList.take m/\(left f i).s=((left f i).d.size:Int):=by
 refine ⟨(f.s+max 0 (min i ((f.d.size:Int)-f.s))).toNat,by omega,by omega,rfl,?_,rfl⟩;show (f.d.extract 0 _).data.toList=_;rw [ByteArray.data_extract]
 simp
theorem Whole.crash {D:Dk} {n:ByteArray} {L:List UInt8} (hR:Right D) (h:Whole D n L) (k:List Int):Whole (crash D k) n L:=by
 obtain ⟨f,h1,h2,h3⟩:=h;obtain ⟨i,h4⟩:=(zeD D.f k n).2 f h1;have hf:=hR.1 f (get_mem h1).1;obtain ⟨m,m1,m2,_,m3,m4⟩:=zg4 hf.2 i;refine ⟨_,h4,?_,m4⟩;rw [m3, <-h2,List.take_of_length_le];show f.d.size<=m;omega
def Rest (r:List UInt8):Prop:=r=[]\/(r≠[]/\∃e:Int,e≠0/\Rp.nxt r=(Rp.zero,0,e))
structure Img (q:Int) (D:Dk) (m:Qm.Mn) (F:Int) (s0:List Fp.Pr) (t:List Rt.Sg) (l r:List Rp.Rec) (rest:List UInt8):Prop where
 dr:Right D
 mo:Qm.Ok m
 ml:m.l=(t.map fun g:Rt.Sg=>g.b)++[F+(l.length:Int)]
 fl:m.l.headD 0=F
 f0:0<=F
 ok:∀x∈l++r,Rp.Ok x
 up:Gp.Rise F (l++r)
 fx:F+((l++r).length:Int)<=1099511627776
 fu:Fulls D q t F l
 la:Whole D (segN (F+(l.length:Int))) (Rp.rowB r++rest)
 re:Rest rest
 zq:((Rp.rowB r).length:Int)<=q+90
 sn:(F=0/\s0=[]/\m.z=0/\m.c=0)\/(0<F/\Fp.St s0/\m.z=((Fp.bytes s0).length:Int)/\m.c=(Cp.sum 0 (Fp.bytes s0):Int)/\Whole D (snapN F) (Fp.bytes s0))
 mf:Whole D nm (Qm.putM m).1
 al:∀f∈D.f,f.s=(f.d.size:Int)
theorem zdh:∀(l:List Fl) (k:List Int),∀f∈zaw l k,f.s=(f.d.size:Int)
 | [],_,f,hf=>by cases hf
 | g::l,[],f,hf=>by
  rcases List.mem_cons.1 hf with rfl | hf
  · rfl
  · exact zdh l [] f hf
 | g::l,k::r,f,hf=>by
  rcases List.mem_cons.1 hf with rfl | hf
  · rfl
  · exact zdh l r f hf
variable {q F:Int} {S:St} {s0:List Fp.Pr} {rs:List Rp.Rec}
instance decMem (n:ByteArray) (l:List ByteArray):Decidable (n∈l):=decidable_of_iff (∃x∈l,n=x) (by simp)
def bare (D:Dk):St:=⟨D,0,[],0,0,0,0⟩
def sweepT (use:List ByteArray):Dk->List ByteArray->Dk×Int
 | D,[]=>(D,0)
 | D,n::t=>if n∈use then sweepT use D t else if (delete D n).2≠0 then delete D n else sweepT use (delete D n).1 t
def sweep (D:Dk) (use:List ByteArray):Dk×Int:=sweepT use D (D.f.map fun f=>f.n)
def useT (m:Qm.Mn):List ByteArray:=nm::((if 0<m.l.headD 0 then [snapN (m.l.headD 0)] else [])++m.l.map segN)
def SnapOk (D:Dk) (m:Qm.Mn):Prop:=0<m.l.headD 0->∃L,dat D (snapN (m.l.headD 0))=some L/\(L.length:Int)=m.z/\(Cp.sum 0 L:Int)=m.c
def zeW (D:Dk):List Int->Option (List Rt.Sg×Nat)
 | []=>some ([],0)
 | b::t=>match dat D (segN b) with
  | none=>none
  | some s=>if t≠[]/\((Gp.full s b).2.2≠0\/b+((Gp.full s b).1.length:Int)≠t.headD 0) then none
   else match zeW D t with
    | none=>none
    | some (gs,w)=>some (⟨b,(Gp.full s b).1.length,(Gp.full s b).2.1⟩::gs,if t=[] then (Gp.full s b).2.1 else w)
def cutT (D:Dk) (n:ByteArray) (w:Nat):Dk×Int:=if w<((dat D n).getD []).length then cut D n w else (D,0)
def endT (D:Dk) (n:ByteArray) (w:Nat):Dk×Int:=if (cutT D n w).2≠0 then cutT D n w else Dp.sync (cutT D n w).1 n
noncomputable def zjW (D:Dk) (m:Qm.Mn):St×Int:=
 match zeW D m.l with
 | none=>(bare D,3)
 | some (gs,w)=>
  let g:=gs.getD (gs.length-1) Rt.zero
  if (sweep D (useT m)).2≠0 then (bare (sweep D (useT m)).1,(sweep D (useT m)).2)
  else if (endT (sweep D (useT m)).1 (segN g.b) w).2≠0 then (bare (endT (sweep D (useT m)).1 (segN g.b) w).1,(endT (sweep D (useT m)).1 (segN g.b) w).2)
  else (⟨(endT (sweep D (useT m)).1 (segN g.b) w).1,m.v,gs,g.b+g.n,g.b+g.n,m.z,m.c⟩,0)
noncomputable def openT (D:Dk):St×Int:=
 open Classical in
 if D.x=true then (bare D,10)
 else match dat D nm with
  | none=>if (sweep D []).2≠0 then (bare (sweep D []).1,(sweep D []).2) else zal (sweep D []).1
  | some s=>if (Qm.getM s).2≠0\/ ¬SnapOk D (Qm.getM s).1 then (bare D,3) else zjW D (Qm.getM s).1
theorem zha {l:List Rp.Rec} (hok:∀r∈l,Rp.Ok r) {b:Int} (hr:Gp.Rise b l) (h0:0<=b) (h1:b<=1099511627776) {rest:List UInt8} (h:Rest rest):
 ∃e:Int,Gp.full (Rp.rowB l++rest) b=(Gp.withAt l 0,(Rp.rowB l).length,e)/\(rest=[]->e=0):=by
 rcases h with rfl | ⟨h2,e,h3,h4⟩
 · have:=Gp.pls_rows l b 0 [] 0 hok hr (.inl ⟨rfl,rfl⟩)
   rw [Nat.zero_add] at this
   exact ⟨0,by rw [Gp.full_in (Rp.inB_mk h0 h1),List.drop_zero,this],fun _=>rfl⟩
 · have:=Gp.pls_rows l b 0 rest e hok hr (.inr ⟨h2,h4,h3⟩)
   rw [Nat.zero_add] at this
   exact ⟨e,by rw [Gp.full_in (Rp.inB_mk h0 h1),List.drop_zero,this],fun e=>absurd e h2⟩
theorem zgB {D:Dk} {q:Int} {r:List Rp.Rec} {rest:List UInt8} (hre:Rest rest):∀{t:List Rt.Sg} {b:Int} {l:List Rp.Rec},Fulls D q t b l->Whole D (segN (b+(l.length:Int))) (Rp.rowB r++rest)->
 (∀x∈l++r,Rp.Ok x)->Gp.Rise b (l++r)->0<=b->b+((l++r).length:Int)<=1099511627776->
 zeW D ((t.map fun g:Rt.Sg=>g.b)++[b+(l.length:Int)])=some (t++[⟨b+(l.length:Int),r.length,(Rp.rowB r).length⟩],(Rp.rowB r).length)
 | [],b,l,h,hw,hok,hr,h0,h1=>by
  obtain rfl:l=[]:=h;have hw':=hw.dat;rw [List.nil_append] at hr h1;obtain ⟨e,h2,_⟩:=zha (fun x hx=>hok x (List.mem_append_right _ hx)) hr h0 (by omega) hre
  have hb:b+(([]:List Rp.Rec).length:Int)=b:=by simp
  rw [hb] at hw' ⊢;show zeW D [b]=_;unfold zeW;rw [hw'];dsimp only;rw [if_neg fun h=>absurd rfl h.1,h2];unfold zeW;dsimp only;rw [if_pos rfl,Gp.withAt_len]
  rfl
 | g::t,b,l,⟨a1,l1,l2,a2,a3,a4,a5,a6,_,_,a9⟩,hw,hok,hr,h0,h1=>by
  subst a2;rw [List.append_assoc] at hok hr h1;have hrs:=zbx b l1 (l2++r) hr;rw [List.length_append] at h1
  have e0:b+((l1++l2).length:Int)=b+g.n+(l2.length:Int):=by rw [List.length_append];omega
  rw [e0] at hw ⊢;have ih:=zgB hre a9 hw (fun x hx=>hok x (List.mem_append_right _ hx)) (by rw [a4];exact hrs.2) (by omega) (by omega);obtain ⟨e,h2,h3⟩:=zha (rest:=[]) (fun x hx=>hok x (List.mem_append_left _ hx)) hrs.1 h0 (by omega) (.inl rfl);rw [h3 rfl,List.append_nil] at h2;rw [List.map_cons,List.cons_append,List.cons_append,a1];unfold zeW;rw [a5.dat];dsimp only
  have hne:(t.map fun g:Rt.Sg=>g.b)++[b+g.n+(l2.length:Int)]≠[]:=by simp
  have hhd:((t.map fun g:Rt.Sg=>g.b)++[b+g.n+(l2.length:Int)]).headD 0=b+g.n:=by
   cases t with
   | nil=>
    obtain rfl:l2=[]:=a9
    simp
   | cons c t=>exact a9.1
  rw [if_neg (by rw [h2,hhd,Gp.withAt_len];dsimp only;rw [a4];simp),ih,h2];dsimp only;rw [if_neg hne,Gp.withAt_len]
  congr 3
  cases g
  dsimp only at a1 a4 a6;rw [a1,a4,a6]
theorem zg8 {D:Dk} {n:ByteArray} {f:Fl} (h:get D.f n=some f):n∈D.f.map fun f=>f.n:=by
 obtain ⟨h1,h2⟩:=get_mem h;exact List.mem_map.2 ⟨f,h1,h2⟩
theorem zcQ (use:List ByteArray):∀(ns:List ByteArray) {D:Dk},Right D->D.x=false->ns.Nodup->(∀n∈ns,get D.f n≠none)->
 Right (sweepT use D ns).1/\(∀n∈use,get (sweepT use D ns).1.f n=get D.f n)/\(∀n,get (sweepT use D ns).1.f n≠none->get (sweepT use D ns).1.f n=get D.f n)/\
  (((sweepT use D ns).2=10/\(sweepT use D ns).1.x=true)\/((sweepT use D ns).2=0/\(sweepT use D ns).1.x=false/\∀n,get (sweepT use D ns).1.f n≠none->n∈use\/n∉ns))
 | [],D,hR,hx,_,_=>⟨hR,fun _ _=>rfl,fun _ _=>rfl,.inr ⟨rfl,hx,fun n _=> .inr (by simp)⟩⟩
 | n::t,D,hR,hx,hd,hg=>by
  have hd':=List.nodup_cons.1 hd;unfold sweepT
  split
  · rename_i hu
    obtain ⟨i1,i2,i3,i4⟩:=zcQ use t hR hx hd'.2 fun a ha=>hg a (mcm ha)
    refine ⟨i1,i2,i3,?_⟩
    rcases i4 with i4 | ⟨j1,j2,j3⟩
    · exact .inl i4
    · refine .inr ⟨j1,j2,fun a ha=>?_⟩
      rcases j3 a ha with h | h
      · exact .inl h
      · by_cases e:a=n
        · exact .inl (by rw [e];exact hu)
        · exact .inr (by simp [e,h])
  · rename_i hu
    have hR':=zdX hR n
    rcases zbp hR n with h | ⟨_,h,_⟩ | ⟨_,hD⟩
    · rw [if_pos (by rw [h.e];decide)]
      exact ⟨hR',fun a _=>by rw [h.f],fun a _=>by rw [h.f],.inl ⟨h.e,h.x⟩⟩
    · exact absurd h (hg n mcs)
    · rw [if_neg (by rw [hD.e];decide)]
      have hDf:=hD.f
      have hDy:=hD.y;clear hD;generalize (delete D n).1=E at*
      obtain ⟨i1,i2,i3,i4⟩:=zcQ use t hR' hDy hd'.2 fun a ha=>by
       rw [hDf,if_neg fun e=>hd'.1 (by rw [<-e];exact ha)];exact hg a (mcm ha)
      refine ⟨i1,fun a ha=>?_,fun a ha=>?_,?_⟩
      · rw [i2 a ha,hDf,if_neg fun e=>hu (by rw [<-e];exact ha)]
      · have h1:=i3 a ha
        rw [h1,hDf] at ha
        rw [h1,hDf]
        by_cases e:a=n
        · rw [if_pos e] at ha;exact absurd rfl ha
        · rw [if_neg e]
      · rcases i4 with i4 | ⟨j1,j2,j3⟩
        · exact .inl i4
        · refine .inr ⟨j1,j2,fun a ha=>?_⟩
          rcases j3 a ha with h | h
          · exact .inl h
          · by_cases e:a=n
            · rw [i3 a ha,hDf,if_pos e] at ha
              exact absurd rfl ha
            · exact .inr (by simp [e,h])
theorem up_nodup {l:List Fl} (h:Up l):(l.map fun f=>f.n).Nodup:=by
 refine List.Pairwise.imp (fun h=>h.ne) (zfv.1 h)
theorem zhx {D:Dk} (hR:Right D) (hx:D.x=false) (use:List ByteArray):
 Right (sweep D use).1/\(∀n∈use,get (sweep D use).1.f n=get D.f n)/\(∀n,get (sweep D use).1.f n≠none->get (sweep D use).1.f n=get D.f n)/\
  (((sweep D use).2=10/\(sweep D use).1.x=true)\/((sweep D use).2=0/\(sweep D use).1.x=false/\∀n,get (sweep D use).1.f n≠none->n∈use)):=by
 obtain ⟨h1,h2,h3,h4⟩:=zcQ use (D.f.map fun f=>f.n) hR hx (up_nodup hR.2.1) (fun n hn=>by
  obtain ⟨f,hf,rfl⟩:=List.mem_map.1 hn
  rw [zdl hR.2.1 hf];simp)
 refine ⟨h1,h2,h3,?_⟩
 rcases h4 with h4 | ⟨a,b,c⟩
 · exact .inl h4
 · refine .inr ⟨a,b,fun n hn=>?_⟩
   rcases c n hn with h | h
   · exact h
   · rw [show (sweep D use).1=(sweepT use D (D.f.map fun f=>f.n)).1 from rfl,h3 n hn] at hn
     rcases hh:get D.f n with _ | f
     · rw [hh] at hn;exact absurd rfl hn
     · exact absurd (zg8 hh) h
variable {D:Dk} {m:Qm.Mn} {t:List Rt.Sg} {l r:List Rp.Rec} {rest:List UInt8}
theorem Img.bases (h:Img q D m F s0 t l r rest):∀a∈t,F<=a.b/\a.b<F+(l.length:Int):=h.fu.bases
theorem Img.lx (h:Img q D m F s0 t l r rest):F+(l.length:Int)+(r.length:Int)<=1099511627776:=by
 have:=h.fx;rw [List.length_append] at this;omega
theorem Img.use_iff (h:Img q D m F s0 t l r rest) (n:ByteArray):n∈useT m↔n=nm\/(0<F/\n=snapN F)\/(∃a∈t,n=segN a.b)\/n=segN (F+(l.length:Int)):=by
 unfold useT;rw [h.fl,h.ml];simp only [List.mem_cons,List.mem_append,List.map_append,List.map_map,List.mem_map,Function.comp,List.map_cons,List.map_nil,List.not_mem_nil,or_false]
 constructor
 · rintro (h1 | h1 | ⟨a,h1,h2⟩ | h1)
   · exact .inl h1
   · by_cases hF:0<F
     · rw [if_pos hF] at h1
       exact .inr (.inl ⟨hF,by simpa using h1⟩)
     · rw [if_neg hF] at h1;simp at h1
   · exact .inr (.inr (.inl ⟨a,h1,h2.symm⟩))
   · exact .inr (.inr (.inr h1))
 · rintro (h1 | ⟨h1,h2⟩ | ⟨a,h1,h2⟩ | h1)
   · exact .inl h1
   · exact .inr (.inl (by rw [if_pos h1];simpa using h2))
   · exact .inr (.inr (.inl ⟨a,h1,h2.symm⟩))
   · exact .inr (.inr (.inr h1))
theorem Img.keep (h:Img q D m F s0 t l r rest) {E:Dk} (hR:Right E) (hf:∀n∈useT m,get E.f n=get D.f n) (ha:∀f∈E.f,f.s=(f.d.size:Int)):Img q E m F s0 t l r rest:=by
 have hu:=h.use_iff;refine ⟨hR,h.mo,h.ml,h.fl,h.f0,h.ok,h.up,h.fx,h.fu.keep fun g hg=>hf _ ((hu _).2 (.inr (.inr (.inl ⟨g,hg,rfl⟩)))),h.la.keep (hf _ ((hu _).2 (.inr (.inr (.inr rfl))))),h.re,h.zq,?_,h.mf.keep (hf _ ((hu _).2 (.inl rfl))),ha⟩
 rcases h.sn with h6 | ⟨h6,h7,h8,h9,h10⟩
 · exact .inl h6
 · exact .inr ⟨h6,h7,h8,h9,h10.keep (hf _ ((hu _).2 (.inr (.inl ⟨h6,rfl⟩))))⟩
def zjV (D:Dk) (m:Qm.Mn) (F:Int) (t:List Rt.Sg) (l r:List Rp.Rec):St:=
 ⟨D,m.v,t++[⟨F+(l.length:Int),r.length,(Rp.rowB r).length⟩],F+(l.length:Int)+(r.length:Int),F+(l.length:Int)+(r.length:Int),m.z,m.c⟩
theorem zjl {D:Dk} {n:ByteArray} {L:List UInt8} (h:Whole D n L):get D.f n=some ⟨n,⟨L.toArray⟩,(L.length:Int)⟩:=by
 obtain ⟨f,h1,h2,h3⟩:=h;rw [h1]
 congr 1
 have h4:=(get_mem h1).2
 cases f
 dsimp only at h2 h3 h4;subst h2;rw [h4,h3]
 rfl
theorem Img.open_ (h:Img q D m F s0 t l r rest) (hx:D.x=false):
 ((openT D).2=0/\(openT D).1=zjV (openT D).1.d m F t l r/\Log q (openT D).1 F s0 (l++r)/\Img q (openT D).1.d m F s0 t l r []/\(openT D).1.d.x=false/\
  ∀n,get (openT D).1.d.f n=if n=segN (F+(l.length:Int)) then some ⟨n,⟨(Rp.rowB r).toArray⟩,((Rp.rowB r).length:Int)⟩ else if n∈useT m then get D.f n else none)\/
   ((openT D).2=10/\(openT D).1=bare (openT D).1.d/\(openT D).1.d.x=true/\∃rest',Img q (openT D).1.d m F s0 t l r rest'/\∀n∈useT m,n≠segN (F+(l.length:Int))->get (openT D).1.d.f n=get D.f n):=by
 have hf0:=h.f0;have hlx:=h.lx
 have hgm:Qm.getM (Qm.putM m).1=(m,0):=by rw [Qm.putM_yes h.mo];exact Qm.getM_yes h.mo
 have hsn:SnapOk D m:=by
  intro h0;rw [h.fl] at h0 ⊢
  rcases h.sn with ⟨h1,_⟩ | ⟨_,_,h3,h4,h5⟩
  · omega
  · exact ⟨_,h5.dat,h3.symm,h4.symm⟩
 have e1:openT D=zjW D m:=by
  unfold openT;rw [if_neg (by rw [hx];decide),h.mf.dat];dsimp only;rw [hgm,if_neg (by rintro (h | h);exact absurd rfl h;exact h hsn)]
 rw [e1];have hsg:=zgB (r:=r) h.re h.fu h.la h.ok h.up hf0 h.fx;rw [<-h.ml] at hsg;unfold zjW;rw [hsg];dsimp only;rw [zcr];dsimp only;obtain ⟨w1,w2,w3,w4⟩:=zhx h.dr hx (useT m);generalize sweep D (useT m)=E at*
 have hEal:∀f∈E.1.f,f.s=(f.d.size:Int):=fun f hf=>by
  have h1:=zdl w1.2.1 hf;have h2:=w3 f.n (by rw [h1];simp);rw [h1] at h2;exact h.al f (get_mem h2.symm).1
 have hE:=h.keep w1 w2 hEal
 rcases w4 with ⟨a,b⟩ | ⟨a,b,w5⟩
 · rw [if_pos (by rw [a];decide)]
   exact .inr ⟨a,rfl,b,rest,hE,fun n hn _=>w2 n hn⟩
 rw [if_neg (by rw [a];decide)];have hlaE:=hE.la;obtain ⟨f,f1,f2,f3⟩:=id hlaE
 have hfs:f.d.size=(Rp.rowB r++rest).length:=by rw [<-f2];rfl
 rw [List.length_append] at hfs
 have hcut:Dead E.1 (cutT E.1 (segN (F+(l.length:Int))) (Rp.rowB r).length)\/((cutT E.1 (segN (F+(l.length:Int))) (Rp.rowB r).length).2=0/\(cutT E.1 (segN (F+(l.length:Int))) (Rp.rowB r).length).1.x=false/\
  ∀n,get (cutT E.1 (segN (F+(l.length:Int))) (Rp.rowB r).length).1.f n=if n=segN (F+(l.length:Int)) then some ⟨n,⟨(Rp.rowB r).toArray⟩,((Rp.rowB r).length:Int)⟩ else get E.1.f n):=by
  unfold cutT;rw [hlaE.dat,Option.getD_some,List.length_append]
  split
  · rcases zlV w1 (segN (F+(l.length:Int))) f1 (k:=((Rp.rowB r).length:Int)) (by omega) with h1 | hD
    · exact .inl h1
    · refine .inr ⟨hD.e,hD.y,fun n=>?_⟩
      rw [hD.f]
      by_cases e:n=segN (F+(l.length:Int))
      · rw [if_pos e,if_pos e,e]
        congr 2
        · apply zdt.2
          rw [ByteArray.data_extract]
          simp only [Array.toList_extract,List.extract_eq_take_drop,List.drop_zero,Nat.sub_zero,Int.toNat_natCast];rw [f2,List.take_left]
        · omega
      · rw [if_neg e,if_neg e]
  · refine .inr ⟨rfl,b,fun n=>?_⟩
    by_cases e:n=segN (F+(l.length:Int))
    · have h0:rest=[]:=List.length_eq_zero_iff.1 (by omega)
      rw [if_pos e,e,zjl hlaE,h0,List.append_nil]
    · rw [if_neg e]
 have hright:Right (cutT E.1 (segN (F+(l.length:Int))) (Rp.rowB r).length).1:=by
  unfold cutT
  split
  · have:=w1.act ⟨3,((Rp.rowB r).length:Int),segN (F+(l.length:Int)),⟨#[]⟩,[]⟩
    have e:Dp.act E.1 ⟨3,((Rp.rowB r).length:Int),segN (F+(l.length:Int)),⟨#[]⟩,[]⟩=cut E.1 (segN (F+(l.length:Int))) ((Rp.rowB r).length:Int):=by unfold Dp.act;simp
    rwa [e] at this
  · exact w1
 unfold endT;generalize cutT E.1 (segN (F+(l.length:Int))) (Rp.rowB r).length=C at*
 rcases hcut with g1 | ⟨g1,g2,g3⟩
 · rw [show (if C.2≠0 then C else Dp.sync C.1 (segN (F+(l.length:Int))))=C from if_pos (by rw [g1.e];decide),if_pos (by rw [g1.e];decide)]
   exact .inr ⟨g1.e,rfl,g1.x,rest,hE.keep hright (fun n _=>by show get C.1.f n=_;rw [g1.f]) (fun f hf=>hEal f (by have:f∈C.1.f:=hf;rwa [g1.f] at this)),fun n hn _=>by show get C.1.f n=_;rw [g1.f];exact w2 n hn⟩
 rw [show (if C.2≠0 then C else Dp.sync C.1 (segN (F+(l.length:Int))))=Dp.sync C.1 (segN (F+(l.length:Int))) from if_neg (by rw [g1];decide)]
 have hfr:∀n∈useT m,n≠segN (F+(l.length:Int))->get C.1.f n=get D.f n:=fun n hn h0=>by rw [g3,if_neg h0];exact w2 n hn
 have hCal:∀f∈C.1.f,f.s=(f.d.size:Int):=fun f hf=>by
  have h1:=zdl hright.2.1 hf;rw [g3] at h1
  by_cases e:f.n=segN (F+(l.length:Int))
  · rw [if_pos e] at h1
    have:=Option.some.inj h1
    rw [<-this]
    rfl
  · rw [if_neg e] at h1
    exact hEal f (get_mem h1).1
 have hseg:∀g∈t,segN g.b≠segN (F+(l.length:Int)):=fun g hg e=>by
  have:=h.bases g hg;have:=zc9 (by omega) (by omega) (by omega) (by omega) e;omega
 have himg:Img q C.1 m F s0 t l r []:=by
  have hu:=h.use_iff;refine ⟨hright,h.mo,h.ml,h.fl,h.f0,h.ok,h.up,h.fx,h.fu.keep fun g hg=>hfr _ ((hu _).2 (.inr (.inr (.inl ⟨g,hg,rfl⟩)))) (hseg g hg),⟨_,(g3 _).trans (if_pos rfl),by simp,rfl⟩,.inl rfl,h.zq,?_,h.mf.keep (hfr _ ((hu _).2 (.inl rfl)) (zbs (by omega) (by omega)).1.symm),hCal⟩
  rcases h.sn with h6 | ⟨h6,h7,h8,h9,h10⟩
  · exact .inl h6
  · exact .inr ⟨h6,h7,h8,h9,h10.keep (hfr _ ((hu _).2 (.inr (.inl ⟨h6,rfl⟩))) (zbn (by omega) (by omega) (by omega) (by omega)))⟩
 have hS1:=zgF hright (segN (F+(l.length:Int)))
 rcases zc7 hright (segN (F+(l.length:Int))) with k1 | ⟨_,k1,_⟩ | ⟨f',k1,hD⟩
 · rw [if_pos (by rw [k1.e];decide)]
   exact .inr ⟨k1.e,rfl,k1.x,[],himg.keep hS1 (fun n _=>by show get (Dp.sync C.1 _).1.f n=_;rw [k1.f]) (fun f hf=>hCal f (by have:f∈(Dp.sync C.1 (segN (F+(l.length:Int)))).1.f:=hf;rwa [k1.f] at this)),fun n hn h0=>by show get (Dp.sync C.1 _).1.f n=_;rw [k1.f];exact hfr n hn h0⟩
 · rw [g3,if_pos rfl] at k1;cases k1
 rw [g3,if_pos rfl] at k1;obtain rfl:=Option.some.inj k1;rw [if_neg (by rw [hD.e];decide)];have hDf:=hD.f;have hDy:=hD.y;clear hD;generalize (Dp.sync C.1 (segN (F+(l.length:Int)))).1=Y at*
 have hY:∀n,get Y.f n=get C.1.f n:=fun n=>by
  rw [hDf]
  by_cases e:n=segN (F+(l.length:Int))
  · rw [if_pos e,e,g3,if_pos rfl]
    rfl
  · rw [if_neg e]
 have hYg:∀n,get Y.f n=if n=segN (F+(l.length:Int)) then some ⟨n,⟨(Rp.rowB r).toArray⟩,((Rp.rowB r).length:Int)⟩ else if n∈useT m then get D.f n else none:=fun n=>by
  rw [hY,g3]
  by_cases e:n=segN (F+(l.length:Int))
  · rw [if_pos e,if_pos e]
  · rw [if_neg e,if_neg e]
    by_cases hu:n∈useT m
    · rw [if_pos hu,w2 n hu]
    · rw [if_neg hu]
      rcases hh:get E.1.f n with _ | f
      · rfl
      · exact absurd (w5 n (by rw [hh];simp)) hu
 have hYi:=himg.keep hS1 (fun n _=>hY n) (fun f hf=>by
  have h1:=zdl hS1.2.1 hf;rw [hY] at h1
  exact hCal f (get_mem h1).1)
 have hlg:lastG (zjV Y m F t l r)=⟨F+(l.length:Int),r.length,(Rp.rowB r).length⟩:=zcr _ _ _
 have hman:man (zjV Y m F t l r)=m:=by
  unfold man zjV;dsimp only;rw [List.map_append];have:=h.ml
  cases m
  dsimp only at this ⊢;rw [this]
  rfl
 refine .inl ⟨rfl,rfl,?_,hYi,hDy,hYg⟩;show Log q (zjV Y m F t l r) F s0 (l++r);refine ⟨hS1,h.ok,h.up,?_,?_,hf0,by show F+(l.length:Int)+(r.length:Int)<=_;omega,by rw [hman];exact h.mo,⟨t,l,r,?_,rfl,hYi.fu,?_,?_,?_,?_,?_⟩,?_,Int.le_refl _,hYi.sn,by rw [hman];exact hYi.mf,fun _ n hn=>?_⟩
 · have h1:=h.fl
   rw [h.ml] at h1
   show ((t++[_]).headD Rt.zero).b=F
   cases t<;>exact h1
 · show F+(l.length:Int)+(r.length:Int)=_
   rw [List.length_append]
   omega
 · rw [hlg];rfl
 · rw [hlg]
 · rw [hlg]
 · rw [hlg]
   obtain ⟨f',p1,p2,p3⟩:=hYi.la
   rw [List.append_nil] at p2;refine ⟨f',p1,p2,?_⟩;have:=zeh r (F+(l.length:Int)+(r.length:Int)-(F+(l.length:Int))).toNat;rw [p3,show f'.d.size=f'.d.data.toList.length from rfl,p2];exact Int.ofNat_le.2 this
 · rw [hlg]
 · rw [hlg]
   exact h.zq
 · rw [hlg]
   show F+(l.length:Int)<=F+(l.length:Int)+(r.length:Int)
   omega
 · have hn':get Y.f n≠none:=hn
   rw [hYg] at hn'
   by_cases e:n=segN (F+(l.length:Int))
   · exact .inr (.inr ⟨_,List.mem_append_right _ (List.mem_singleton.2 rfl),e⟩)
   · rw [if_neg e] at hn'
     by_cases hu:n∈useT m
     · rcases (h.use_iff n).1 hu with h1 | h1 | ⟨a,h1,h2⟩ | h1
       · exact .inl h1
       · exact .inr (.inl h1)
       · exact .inr (.inr ⟨a,List.mem_append_left _ h1,h2⟩)
       · exact absurd h1 e
     · rw [if_neg hu] at hn'
       exact absurd rfl hn'
structure Via (D E:Dk):Prop where
 c:E.c=D.c
 k:D.a=false->D.x=false->E.a=false/\E.x=false/\E.l=D.l
theorem Via.refl (D:Dk):Via D D:=⟨rfl,fun a x=>⟨a,x,rfl⟩⟩
theorem Via.trans {D E G:Dk} (h:Via D E) (k:Via E G):Via D G:=⟨k.c.trans h.c,fun a x=>by
 obtain ⟨h1,h2,h3⟩:=h.k a x;obtain ⟨k1,k2,k3⟩:=k.k h1 h2
 exact ⟨k1,k2,k3.trans h3⟩⟩
theorem za0 (D:Dk) (l:List Fl) (own:Int):Via D (change D l own).1:=by
 rcases zaQ D l own with ⟨e,h⟩ | ⟨e,h1,h2⟩ | ⟨e,h0,h1,h2,_⟩ | ⟨e,h0,h1,h2,_⟩ | ⟨e,h0,h1,_⟩
 all_goals rw [e]
 · exact Via.refl D
 · exact Via.refl D
 · exact ⟨rfl,fun a=>by rw [h2] at a;cases a⟩
 · exact ⟨rfl,fun a=>by rw [h2] at a;cases a⟩
 · exact ⟨rfl,fun a x=>⟨a,x,rfl⟩⟩
theorem zc5 (D:Dk) (n:ByteArray):Via D (create D n).1:=by
 unfold create
 split
 · exact za0 _ _ _
 · split<;>exact za0 _ _ _
theorem zjn (D:Dk) (n s:ByteArray):Via D (Dp.append D n s).1:=by
 unfold Dp.append
 split
 · exact za0 _ _ _
 · split<;>exact za0 _ _ _
theorem ziw (D:Dk) (n:ByteArray):Via D (Dp.sync D n).1:=by
 unfold Dp.sync
 split<;>exact za0 _ _ _
theorem via_cut (D:Dk) (n:ByteArray) (k:Int):Via D (cut D n k).1:=by
 unfold cut
 split
 · exact za0 _ _ _
 · split<;>exact za0 _ _ _
theorem zjm (D:Dk) (n m:ByteArray):Via D (rename D n m).1:=by
 unfold rename
 split
 · exact za0 _ _ _
 · split<;>exact za0 _ _ _
theorem zch (D:Dk) (n:ByteArray):Via D (delete D n).1:=by
 unfold delete
 split<;>exact za0 _ _ _
theorem zgj (D:Dk) (s:ByteArray):Via D (swapS D s).1:=by
 have h1:=zc5 D nn;have h2:=h1.trans (zjn (create D nn).1 nn s);have h3:=h2.trans (ziw (Dp.append (create D nn).1 nn s).1 nn);unfold swapS
 split
 · exact h1
 split
 · exact h2.trans (zch _ nn)
 split
 · exact h2
 split
 · exact h3
 · exact h3.trans (zjm _ nn nm)
theorem zix (D:Dk) (m:Qm.Mn):Via D (swap D m).1:=by
 unfold swap
 split
 · exact Via.refl D
 split
 · split
   · exact zch D nn
   · exact (zch D nn).trans (zgj _ _)
 · exact zgj D _
theorem zcg (use:List ByteArray):∀(ns:List ByteArray) (D:Dk),Via D (sweepT use D ns).1
 | [],D=>Via.refl D
 | n::t,D=>by
  unfold sweepT
  split
  · exact zcg use t D
  split
  · exact zch _ _
  · exact (zch D n).trans (zcg use t _)
theorem ziz (D:Dk) (n:ByteArray) (w:Nat):Via D (cutT D n w).1:=by
 unfold cutT
 split
 · exact via_cut _ _ _
 · exact Via.refl D
theorem ziy (D:Dk) (n:ByteArray) (w:Nat):Via D (endT D n w).1:=by
 unfold endT
 split
 · exact ziz D n w
 · exact (ziz D n w).trans (ziw _ n)
theorem zki (D:Dk) (m:Qm.Mn):Via D (zjW D m).1.d:=by
 unfold zjW
 split
 · exact Via.refl D
 · dsimp only
   have h1:Via D (sweep D (useT m)).1:=zcg _ _ D
   split
   · exact h1
   split
   · exact h1.trans (ziy _ _ _)
   · exact h1.trans (ziy _ _ _)
theorem zhw (D:Dk):Via D (zal D).1.d:=by
 unfold zal
 split
 · exact zc5 _ _
 dsimp only
 split
 · exact (zc5 D (segN 0)).trans (zix _ _)
 · exact (zc5 D (segN 0)).trans (zix _ _)
theorem zdx (D:Dk):Via D (openT D).1.d:=by
 unfold openT
 split
 · exact Via.refl D
 split
 · split
   · exact zcg _ _ D
   · exact (zcg _ _ D).trans (zhw _)
 · split
   · exact Via.refl D
   · exact zki D _
variable {q F:Int} {S:St} {s0:List Fp.Pr} {rs:List Rp.Rec}
noncomputable def pickN (l:List Rt.Sg) (keep count:Int):Nat:=Classical.choose (Rt.pick_some l keep count)
theorem pickN_is (l:List Rt.Sg) (keep count:Int):Rt.IsPick l keep count (pickN l keep count):=Classical.choose_spec (Rt.pick_some l keep count)
noncomputable def trimT (S:St) (keep count:Int):St×Int:=trimK S (pickN S.g keep count)
theorem Log.ne (h:Log q S F s0 rs):S.g≠[]:=by
 intro e;have:=h.last_mem;rw [e] at this
 cases this
theorem Log.trim_law (h:Log q S F s0 rs) (hv:S.v<1099511627776) (keep count:Int):
 ∃m:Nat,m<=rs.length/\Log q (trimT S keep count).1 (F+m) (Fp.fold s0 ((rs.take m).map fun r=>r.d)) (rs.drop m)/\(trimT S keep count).1.x=S.x/\(trimT S keep count).1.s=S.s/\
  ((trimT S keep count).2=0\/(trimT S keep count).2=9\/(trimT S keep count).2=10)/\S.v<=(trimT S keep count).1.v/\(trimT S keep count).1.v<=S.v+1/\
  ((trimT S keep count).2=0->pickN (trimT S keep count).1.g keep count=0):=by
 have hp:=pickN_is S.g keep count;have hne:=List.length_pos_iff.2 h.ne
 have zero:Log q S (F+(0:Nat)) (Fp.fold s0 ((rs.take 0).map fun r=>r.d)) (rs.drop 0):=by
  rw [List.take_zero,List.drop_zero]
  simpa [Fp.fold] using h
 unfold trimT
 rcases Nat.eq_zero_or_pos (pickN S.g keep count) with h0 | h0
 · have e:trimK S (pickN S.g keep count)=(S,0):=by unfold trimK;rw [if_pos h0]
   rw [e]
   exact ⟨0,Nat.zero_le _,zero,rfl,rfl,.inl rfl,Int.le_refl _,by show S.v<=_;omega,fun _=>h0⟩
 · obtain ⟨m,m1,m2,m3,m4⟩:=h.trim h0 (hp.lt.2 hne) hv
   rcases m4 with ⟨a1,a2,a3⟩ | ⟨a1,a2,a3⟩
   · refine ⟨0,Nat.zero_le _,?_,by rw [a3],by rw [a3],?_,by rw [a3];exact Int.le_refl _,by rw [a3];show S.v<=_;omega,fun e=>?_⟩
     · rw [List.take_zero,List.drop_zero]
       simpa [Fp.fold] using a1
     · rcases a2 with a2 | ⟨a2,_⟩
       · exact .inr (.inl a2)
       · exact .inr (.inr a2)
     · rcases a2 with a2 | ⟨a2,_⟩<;>rw [a2] at e<;>cases e
   · refine ⟨m,m2,a1,by rw [a3];rfl,by rw [a3];rfl,?_,by rw [a3];show S.v<=S.v+1;omega,by rw [a3];exact Int.le_refl _,fun _=>?_⟩
     · rcases a2 with a2 | ⟨a2,_⟩
       · exact .inl a2
       · exact .inr (.inr a2)
     · rw [a3]
       show pickN (S.g.drop _) keep count=0
       exact (pickN_is _ _ _).one hp.again
structure Pa where
 k:Int
 n:Int
 m:Int
 d:ByteArray
noncomputable def playA (q i:Int) (S:St) (a:Pa):St:=
 if a.k=1 then (zap S).1 else if a.k=2 then (trimT S a.n a.m).1 else if a.k=3 then {S with d:=arm S.d a.n} else if a.k=4 then {S with d:=limit S.d a.n} else (So.append S q ⟨S.x,i,a.d⟩).1
theorem Log.play (h:Log q S F s0 rs) (hq:0<q) (hv:S.v<1099511627776) (i:Int) (a:Pa):(∃F' s0' rs',Log q (playA q i S a) F' s0' rs')/\(playA q i S a).v<=S.v+1:=by
 unfold playA
 split
 · exact ⟨⟨_,_,_,h.sync.1⟩,by show S.v<=_;omega⟩
 split
 · obtain ⟨m,_,m2,_,_,_,_,m3,_⟩:=h.trim_law hv a.n a.m
   exact ⟨⟨_,_,_,m2⟩,m3⟩
 split
 · exact ⟨⟨_,_,_,h.arm a.n⟩,by show S.v<=_;omega⟩
 split
 · exact ⟨⟨_,_,_,h.limit a.n⟩,by show S.v<=_;omega⟩
 · obtain ⟨_,h2,h3⟩:=h.append hq hv ⟨S.x,i,a.d⟩
   rcases h3 with ⟨_,_,_,h3⟩ | ⟨_,h3,_⟩
   · exact ⟨⟨_,_,_,h3⟩,h2⟩
   · exact ⟨⟨_,_,_,h3⟩,h2⟩
noncomputable def playL (q:Int) (l:List Pa) (n:Nat):St:=(List.range n).foldl (fun S (i:Nat)=>playA q i S (l.getD i ⟨0,0,0,⟨#[]⟩⟩)) (zal empty).1
theorem playL_succ (q:Int) (l:List Pa) (n:Nat):playL q l (n+1)=playA q n (playL q l n) (l.getD n ⟨0,0,0,⟨#[]⟩⟩):=by
 unfold playL;rw [List.range_succ,List.foldl_append]
 rfl
theorem Img.calm {D:Dk} {m:Qm.Mn} {t:List Rt.Sg} {l r:List Rp.Rec} {rest:List UInt8} (h:Img q D m F s0 t l r rest) (hx:D.x=false) (ha:D.a=false):
 (openT D).2=0/\(openT D).1=zjV (openT D).1.d m F t l r/\Log q (openT D).1 F s0 (l++r)/\Img q (openT D).1.d m F s0 t l r []/\(openT D).1.d.x=false/\
  ∀n,get (openT D).1.d.f n=if n=segN (F+(l.length:Int)) then some ⟨n,⟨(Rp.rowB r).toArray⟩,((Rp.rowB r).length:Int)⟩ else if n∈useT m then get D.f n else none:=by
 rcases h.open_ hx with h1 | ⟨_,_,h2,_⟩
 · exact h1
 · have:=((zdx D).k ha hx).2.1
   rw [h2] at this
   cases this
end Lg
section
open Go.RowKit
theorem zad {w:World} (n:Nat):Below w.heap.size w (w.drewN n):=by
 induction n generalizing w with
 | zero=>exact Below.refl _ _
 | succ n ih=>exact ih.drew
theorem zaf {w w1 w2:World} (h:Below w.heap.size w w1) (k:Below w1.heap.size w1 w2):Below w.heap.size w w2:=h.trans (k.mono h.size)
theorem zat {w w':World} {o:Obj} (h:Below (w.alloc o).heap.size (w.alloc o) w'):Below w.heap.size w w':=
 ((Below.refl _ _).alloc (Nat.le_refl _) _).trans (h.mono (by simp))
theorem zaq {w w':World} {base:Nat} {e:TypeId} {size:Nat} {v:Value} {n:Nat} {xs:List Value} (h:w.ownsRow base e size v n xs) (b:Below w.heap.size w w'):w'.ownsRow base e size v n xs:=by
 refine h.kept (row:=none) ⟨b.os,b.tape,b.output,b.size,fun k hk _=>b.block k hk⟩ ?_
 cases v.ownBlock with
 | none=>exact .inl rfl
 | some k=>exact .inr (by simp)
theorem zb9 (s:ByteArray) (a b:Nat):(s.extract a b).data.toList=(s.data.toList.drop a).take (b-a):=by
 simp
theorem mk_ext (s:ByteArray) (k j m:Nat):s.extract (k+j) (k+j+m)=⟨(((s.data.toList.drop k).drop j).take m).toArray⟩:=by
 apply ByteArray.ext
 apply Array.ext'
 rw [zb9]
 simp [List.drop_drop]
theorem zam (l:List UInt8):(ByteArray.mk l.toArray).size=l.length:=by simp [ByteArray.size]
theorem zga (s:ByteArray) (q:Nat):(⟨(s.data.toList.drop q).toArray⟩:ByteArray)=s.extract q s.size:=by
 apply ByteArray.ext
 apply Array.ext'
 rw [zb9,List.take_of_length_le (by simp)]
theorem bcell {W w1:World} (hb:Below W.heap.size W w1):(∀b o,b<W.heap.size->w1.cell? ⟨b,o,none⟩=W.cell? ⟨b,o,none⟩)/\(∀b o,b<W.heap.size->w1.frozen? ⟨b,o,none⟩=W.frozen? ⟨b,o,none⟩):=
 ⟨fun b o h=>hb.cell (p:=⟨b,o,none⟩) h,fun b o h=>hb.frozen (p:=⟨b,o,none⟩) h⟩
theorem zak (b off j:Nat):(⟨b,off,none⟩:Addr).add j=⟨b,off+j,none⟩:=by
 unfold Addr.add
 split<;>simp_all
theorem zdi {w w1 w2:World} {x y z:Value} (h:w1.cell? ⟨w.heap.size,0,none⟩=some x/\w1.cell? ⟨w.heap.size,1,none⟩=some y/\w1.cell? ⟨w.heap.size,2,none⟩=some z/\Below w.heap.size w w1)
 (b:Below w1.heap.size w1 w2):w2.cell? ⟨w.heap.size,0,none⟩=some x/\w2.cell? ⟨w.heap.size,1,none⟩=some y/\w2.cell? ⟨w.heap.size,2,none⟩=some z/\Below w.heap.size w w2:=by
 obtain ⟨h0,h1,h2,hb⟩:=h;have hl:=block_lt_of_cell h0;exact ⟨(b.cell (p:=⟨w.heap.size,0,none⟩) hl).trans h0,(b.cell (p:=⟨w.heap.size,1,none⟩) hl).trans h1,(b.cell (p:=⟨w.heap.size,2,none⟩) hl).trans h2,hb.trans (b.mono hb.size)⟩
theorem zeS (w:World) (x y z:Value) (T:TypeId):(w.alloc (.cells #[x,y,z] T)).cell? ⟨w.heap.size,0,none⟩=some x/\(w.alloc (.cells #[x,y,z] T)).cell? ⟨w.heap.size,1,none⟩=some y/\(w.alloc (.cells #[x,y,z] T)).cell? ⟨w.heap.size,2,none⟩=some z/\Below w.heap.size w (w.alloc (.cells #[x,y,z] T)):=
 ⟨by unfold World.cell?;rw [heap_alloc_new];rfl,by unfold World.cell?;rw [heap_alloc_new];rfl,by unfold World.cell?;rw [heap_alloc_new];rfl,(Below.refl _ _).alloc (Nat.le_refl _) _⟩
end
end Go.Proofs.YtooipogbmfkeeaaGreat

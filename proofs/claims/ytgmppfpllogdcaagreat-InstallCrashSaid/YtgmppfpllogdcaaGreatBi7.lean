/-
  Parts of what the laws of this seat stand on:LogOpen,List.
-/
import Derived.Deep.RegionLaw
import Derived.Laws.CopyRow
import Derived.Laws.IdiomCopy
import Derived.Test.YtgmppfpllogdcaaGreatBi1
import Derived.Test.YtgmppfpllogdcaaGreatBi6
set_option maxRecDepth 100000
set_option maxHeartbeats 6400000
namespace Go.Proofs.YtgmppfpllogdcaaGreat
namespace Lg
open Dp So
variable {q F:Int} {S:St} {s0:List Fp.Pr} {rs:List Rp.Rec}
instance decMem (n:ByteArray) (l:List ByteArray):Decidable (n∈l):=decidable_of_iff (∃x∈l,n=x) (by simp)
def bare (D:Dk):St:=⟨D,0,[],0,0,0,0⟩
def sweepT (use:List ByteArray):Dk->List ByteArray->Dk×Int
 | D,[]=>(D,0)
 | D,n::t=>if n∈use then sweepT use D t else if (delete D n).2≠0 then delete D n else sweepT use (delete D n).1 t
def sweep (D:Dk) (use:List ByteArray):Dk×Int:=sweepT use D (D.f.map fun f=>f.n)
def useT (m:Qm.Mn):List ByteArray:=nm::((if 0<m.l.headD 0 then [snapN (m.l.headD 0)] else [])++m.l.map segN)
def SnapOk (D:Dk) (m:Qm.Mn):Prop:=0<m.l.headD 0->∃L,dat D (snapN (m.l.headD 0))=some L/\(L.length:Int)=m.z/\(Cp.sum 0 L:Int)=m.c
def zeJ (D:Dk):List Int->Option (List Rt.Sg×Nat)
 | []=>some ([],0)
 | b::t=>match dat D (segN b) with
  | none=>none
  | some s=>if t≠[]/\((Gp.full s b).2.2≠0\/b+((Gp.full s b).1.length:Int)≠t.headD 0) then none
   else match zeJ D t with
    | none=>none
    | some (gs,w)=>some (⟨b,(Gp.full s b).1.length,(Gp.full s b).2.1⟩::gs,if t=[] then (Gp.full s b).2.1 else w)
def cutT (D:Dk) (n:ByteArray) (w:Nat):Dk×Int:=if w<((dat D n).getD []).length then cut D n w else (D,0)
def endT (D:Dk) (n:ByteArray) (w:Nat):Dk×Int:=if (cutT D n w).2≠0 then cutT D n w else Dp.sync (cutT D n w).1 n
noncomputable def zjB (D:Dk) (m:Qm.Mn):St×Int:=
 match zeJ D m.l with
 | none=>(bare D,3)
 | some (gs,w)=>
  let g:=gs.getD (gs.length-1) Rt.zero
  if (sweep D (useT m)).2≠0 then (bare (sweep D (useT m)).1,(sweep D (useT m)).2)
  else if (endT (sweep D (useT m)).1 (segN g.b) w).2≠0 then (bare (endT (sweep D (useT m)).1 (segN g.b) w).1,(endT (sweep D (useT m)).1 (segN g.b) w).2)
  else (⟨(endT (sweep D (useT m)).1 (segN g.b) w).1,m.v,gs,g.b+g.n,g.b+g.n,m.z,m.c⟩,0)
noncomputable def openT (D:Dk):St×Int:=
 open Classical in
 if D.x=true then (bare D,10)
 else match dat D nm with
  | none=>if (sweep D []).2≠0 then (bare (sweep D []).1,(sweep D []).2) else zal (sweep D []).1
  | some s=>if (Qm.getM s).2≠0\/ ¬SnapOk D (Qm.getM s).1 then (bare D,3) else zjB D (Qm.getM s).1
theorem zgT {l:List Rp.Rec} (hok:∀r∈l,Rp.Ok r) {b:Int} (hr:Gp.Rise b l) (h0:0<=b) (h1:b<=1099511627776) {rest:List UInt8} (h:Rest rest):
 ∃e:Int,Gp.full (Rp.rowB l++rest) b=(Gp.withAt l 0,(Rp.rowB l).length,e)/\(rest=[]->e=0):=by
 rcases h with rfl | ⟨h2,e,h3,h4⟩
 · have:=Gp.pls_rows l b 0 [] 0 hok hr (.inl ⟨rfl,rfl⟩)
   rw [Nat.zero_add] at this
   exact ⟨0,by rw [Gp.full_in (Rp.inB_mk h0 h1),List.drop_zero,this],fun _=>rfl⟩
 · have:=Gp.pls_rows l b 0 rest e hok hr (.inr ⟨h2,h4,h3⟩)
   rw [Nat.zero_add] at this
   exact ⟨e,by rw [Gp.full_in (Rp.inB_mk h0 h1),List.drop_zero,this],fun e=>absurd e h2⟩
theorem zgd {D:Dk} {q:Int} {r:List Rp.Rec} {rest:List UInt8} (hre:Rest rest):∀{t:List Rt.Sg} {b:Int} {l:List Rp.Rec},Fulls D q t b l->Whole D (segN (b+(l.length:Int))) (Rp.rowB r++rest)->
 (∀x∈l++r,Rp.Ok x)->Gp.Rise b (l++r)->0<=b->b+((l++r).length:Int)<=1099511627776->
 zeJ D ((t.map fun g:Rt.Sg=>g.b)++[b+(l.length:Int)])=some (t++[⟨b+(l.length:Int),r.length,(Rp.rowB r).length⟩],(Rp.rowB r).length)
 | [],b,l,h,hw,hok,hr,h0,h1=>by
  obtain rfl:l=[]:=h;have hw':=hw.dat;rw [List.nil_append] at hr h1;obtain ⟨e,h2,_⟩:=zgT (fun x hx=>hok x (List.mem_append_right _ hx)) hr h0 (by omega) hre
  have hb:b+(([]:List Rp.Rec).length:Int)=b:=by simp
  rw [hb] at hw' ⊢;show zeJ D [b]=_;unfold zeJ;rw [hw'];dsimp only;rw [if_neg fun h=>absurd rfl h.1,h2];unfold zeJ;dsimp only;rw [if_pos rfl,Gp.withAt_len]
  rfl
 | g::t,b,l,⟨a1,l1,l2,a2,a3,a4,a5,a6,_,_,a9⟩,hw,hok,hr,h0,h1=>by
  subst a2;rw [List.append_assoc] at hok hr h1;have hrs:=zbw b l1 (l2++r) hr;rw [List.length_append] at h1
  have e0:b+((l1++l2).length:Int)=b+g.n+(l2.length:Int):=by rw [List.length_append];omega
  rw [e0] at hw ⊢;have ih:=zgd hre a9 hw (fun x hx=>hok x (List.mem_append_right _ hx)) (by rw [a4];exact hrs.2) (by omega) (by omega);obtain ⟨e,h2,h3⟩:=zgT (rest:=[]) (fun x hx=>hok x (List.mem_append_left _ hx)) hrs.1 h0 (by omega) (.inl rfl);rw [h3 rfl,List.append_nil] at h2;rw [List.map_cons,List.cons_append,List.cons_append,a1];unfold zeJ;rw [a5.dat];dsimp only
  have hne:(t.map fun g:Rt.Sg=>g.b)++[b+g.n+(l2.length:Int)]≠[]:=by simp
  have hhd:((t.map fun g:Rt.Sg=>g.b)++[b+g.n+(l2.length:Int)]).headD 0=b+g.n:=by
   cases t with
   | nil=>
    obtain rfl:l2=[]:=a9
    simp
   | cons c t=>exact a9.1
  rw [if_neg (by rw [h2,hhd,Gp.withAt_len];dsimp only;rw [a4];simp),ih,h2];dsimp only;rw [if_neg hne,Gp.withAt_len]
  congr 3
  cases g
  dsimp only at a1 a4 a6;rw [a1,a4,a6]
theorem zgQ {D:Dk} {n:ByteArray} {f:Fl} (h:get D.f n=some f):n∈D.f.map fun f=>f.n:=by
 obtain ⟨h1,h2⟩:=get_mem h;exact List.mem_map.2 ⟨f,h1,h2⟩
theorem zcH (use:List ByteArray):∀(ns:List ByteArray) {D:Dk},Right D->D.x=false->ns.Nodup->(∀n∈ns,get D.f n≠none)->
 Right (sweepT use D ns).1/\(∀n∈use,get (sweepT use D ns).1.f n=get D.f n)/\(∀n,get (sweepT use D ns).1.f n≠none->get (sweepT use D ns).1.f n=get D.f n)/\
  (((sweepT use D ns).2=10/\(sweepT use D ns).1.x=true)\/((sweepT use D ns).2=0/\(sweepT use D ns).1.x=false/\∀n,get (sweepT use D ns).1.f n≠none->n∈use\/n∉ns))
 | [],D,hR,hx,_,_=>⟨hR,fun _ _=>rfl,fun _ _=>rfl,.inr ⟨rfl,hx,fun n _=> .inr (by simp)⟩⟩
 | n::t,D,hR,hx,hd,hg=>by
  have hd':=List.nodup_cons.1 hd;unfold sweepT
  split
  · rename_i hu
    obtain ⟨i1,i2,i3,i4⟩:=zcH use t hR hx hd'.2 fun a ha=>hg a (mcm ha)
    refine ⟨i1,i2,i3,?_⟩
    rcases i4 with i4 | ⟨j1,j2,j3⟩
    · exact .inl i4
    · refine .inr ⟨j1,j2,fun a ha=>?_⟩
      rcases j3 a ha with h | h
      · exact .inl h
      · by_cases e:a=n
        · exact .inl (by rw [e];exact hu)
        · exact .inr (by simp [e,h])
  · rename_i hu
    have hR':=zcL hR n
    rcases zaP hR n with h | ⟨_,h,_⟩ | ⟨_,hD⟩
    · rw [if_pos (by rw [h.e];decide)]
      exact ⟨hR',fun a _=>by rw [h.f],fun a _=>by rw [h.f],.inl ⟨h.e,h.x⟩⟩
    · exact absurd h (hg n mcs)
    · rw [if_neg (by rw [hD.e];decide)]
      have hDf:=hD.f
      have hDy:=hD.y;clear hD;generalize (delete D n).1=E at*
      obtain ⟨i1,i2,i3,i4⟩:=zcH use t hR' hDy hd'.2 fun a ha=>by
       rw [hDf,if_neg fun e=>hd'.1 (by rw [<-e];exact ha)];exact hg a (mcm ha)
      refine ⟨i1,fun a ha=>?_,fun a ha=>?_,?_⟩
      · rw [i2 a ha,hDf,if_neg fun e=>hu (by rw [<-e];exact ha)]
      · have h1:=i3 a ha
        rw [h1,hDf] at ha
        rw [h1,hDf]
        by_cases e:a=n
        · rw [if_pos e] at ha;exact absurd rfl ha
        · rw [if_neg e]
      · rcases i4 with i4 | ⟨j1,j2,j3⟩
        · exact .inl i4
        · refine .inr ⟨j1,j2,fun a ha=>?_⟩
          rcases j3 a ha with h | h
          · exact .inl h
          · by_cases e:a=n
            · rw [i3 a ha,hDf,if_pos e] at ha
              exact absurd rfl ha
            · exact .inr (by simp [e,h])
theorem up_nodup {l:List Fl} (h:Up l):(l.map fun f=>f.n).Nodup:=by
 refine List.Pairwise.imp (fun h=>h.ne) (zfl.1 h)
theorem zhg {D:Dk} (hR:Right D) (hx:D.x=false) (use:List ByteArray):
 Right (sweep D use).1/\(∀n∈use,get (sweep D use).1.f n=get D.f n)/\(∀n,get (sweep D use).1.f n≠none->get (sweep D use).1.f n=get D.f n)/\
  (((sweep D use).2=10/\(sweep D use).1.x=true)\/((sweep D use).2=0/\(sweep D use).1.x=false/\∀n,get (sweep D use).1.f n≠none->n∈use)):=by
 obtain ⟨h1,h2,h3,h4⟩:=zcH use (D.f.map fun f=>f.n) hR hx (up_nodup hR.2.1) (fun n hn=>by
  obtain ⟨f,hf,rfl⟩:=List.mem_map.1 hn
  rw [zdv hR.2.1 hf];simp)
 refine ⟨h1,h2,h3,?_⟩
 rcases h4 with h4 | ⟨a,b,c⟩
 · exact .inl h4
 · refine .inr ⟨a,b,fun n hn=>?_⟩
   rcases c n hn with h | h
   · exact h
   · rw [show (sweep D use).1=(sweepT use D (D.f.map fun f=>f.n)).1 from rfl,h3 n hn] at hn
     rcases hh:get D.f n with _ | f
     · rw [hh] at hn;exact absurd rfl hn
     · exact absurd (zgQ hh) h
variable {D:Dk} {m:Qm.Mn} {t:List Rt.Sg} {l r:List Rp.Rec} {rest:List UInt8}
theorem Img.bases (h:Img q D m F s0 t l r rest):∀a∈t,F<=a.b/\a.b<F+(l.length:Int):=h.fu.bases
theorem Img.lx (h:Img q D m F s0 t l r rest):F+(l.length:Int)+(r.length:Int)<=1099511627776:=by
 have:=h.fx;rw [List.length_append] at this;omega
theorem Img.use_iff (h:Img q D m F s0 t l r rest) (n:ByteArray):n∈useT m↔n=nm\/(0<F/\n=snapN F)\/(∃a∈t,n=segN a.b)\/n=segN (F+(l.length:Int)):=by
 unfold useT;rw [h.fl,h.ml];simp only [List.mem_cons,List.mem_append,List.map_append,List.map_map,List.mem_map,Function.comp,List.map_cons,List.map_nil,List.not_mem_nil,or_false]
 constructor
 · rintro (h1 | h1 | ⟨a,h1,h2⟩ | h1)
   · exact .inl h1
   · by_cases hF:0<F
     · rw [if_pos hF] at h1
       exact .inr (.inl ⟨hF,by simpa using h1⟩)
     · rw [if_neg hF] at h1;simp at h1
   · exact .inr (.inr (.inl ⟨a,h1,h2.symm⟩))
   · exact .inr (.inr (.inr h1))
 · rintro (h1 | ⟨h1,h2⟩ | ⟨a,h1,h2⟩ | h1)
   · exact .inl h1
   · exact .inr (.inl (by rw [if_pos h1];simpa using h2))
   · exact .inr (.inr (.inl ⟨a,h1,h2.symm⟩))
   · exact .inr (.inr (.inr h1))
theorem Img.keep (h:Img q D m F s0 t l r rest) {E:Dk} (hR:Right E) (hf:∀n∈useT m,get E.f n=get D.f n) (ha:∀f∈E.f,f.s=(f.d.size:Int)):Img q E m F s0 t l r rest:=by
 have hu:=h.use_iff;refine ⟨hR,h.mo,h.ml,h.fl,h.f0,h.ok,h.up,h.fx,h.fu.keep fun g hg=>hf _ ((hu _).2 (.inr (.inr (.inl ⟨g,hg,rfl⟩)))),h.la.keep (hf _ ((hu _).2 (.inr (.inr (.inr rfl))))),h.re,h.zq,?_,h.mf.keep (hf _ ((hu _).2 (.inl rfl))),ha⟩
 rcases h.sn with h6 | ⟨h6,h7,h8,h9,h10⟩
 · exact .inl h6
 · exact .inr ⟨h6,h7,h8,h9,h10.keep (hf _ ((hu _).2 (.inr (.inl ⟨h6,rfl⟩))))⟩
def zjA (D:Dk) (m:Qm.Mn) (F:Int) (t:List Rt.Sg) (l r:List Rp.Rec):St:=
 ⟨D,m.v,t++[⟨F+(l.length:Int),r.length,(Rp.rowB r).length⟩],F+(l.length:Int)+(r.length:Int),F+(l.length:Int)+(r.length:Int),m.z,m.c⟩
theorem zi0 {D:Dk} {n:ByteArray} {L:List UInt8} (h:Whole D n L):get D.f n=some ⟨n,⟨L.toArray⟩,(L.length:Int)⟩:=by
 obtain ⟨f,h1,h2,h3⟩:=h;rw [h1]
 congr 1
 have h4:=(get_mem h1).2
 cases f
 dsimp only at h2 h3 h4;subst h2;rw [h4,h3]
 rfl
theorem Img.open_ (h:Img q D m F s0 t l r rest) (hx:D.x=false):
 ((openT D).2=0/\(openT D).1=zjA (openT D).1.d m F t l r/\Log q (openT D).1 F s0 (l++r)/\Img q (openT D).1.d m F s0 t l r []/\(openT D).1.d.x=false/\
  ∀n,get (openT D).1.d.f n=if n=segN (F+(l.length:Int)) then some ⟨n,⟨(Rp.rowB r).toArray⟩,((Rp.rowB r).length:Int)⟩ else if n∈useT m then get D.f n else none)\/
   ((openT D).2=10/\(openT D).1=bare (openT D).1.d/\(openT D).1.d.x=true/\∃rest',Img q (openT D).1.d m F s0 t l r rest'/\∀n∈useT m,n≠segN (F+(l.length:Int))->get (openT D).1.d.f n=get D.f n):=by
 have hf0:=h.f0;have hlx:=h.lx
 have hgm:Qm.getM (Qm.putM m).1=(m,0):=by rw [Qm.putM_yes h.mo];exact Qm.getM_yes h.mo
 have hsn:SnapOk D m:=by
  intro h0;rw [h.fl] at h0 ⊢
  rcases h.sn with ⟨h1,_⟩ | ⟨_,_,h3,h4,h5⟩
  · omega
  · exact ⟨_,h5.dat,h3.symm,h4.symm⟩
 have e1:openT D=zjB D m:=by
  unfold openT;rw [if_neg (by rw [hx];decide),h.mf.dat];dsimp only;rw [hgm,if_neg (by rintro (h | h);exact absurd rfl h;exact h hsn)]
 rw [e1];have hsg:=zgd (r:=r) h.re h.fu h.la h.ok h.up hf0 h.fx;rw [<-h.ml] at hsg;unfold zjB;rw [hsg];dsimp only;rw [zcm];dsimp only;obtain ⟨w1,w2,w3,w4⟩:=zhg h.dr hx (useT m);generalize sweep D (useT m)=E at*
 have hEal:∀f∈E.1.f,f.s=(f.d.size:Int):=fun f hf=>by
  have h1:=zdv w1.2.1 hf;have h2:=w3 f.n (by rw [h1];simp);rw [h1] at h2;exact h.al f (get_mem h2.symm).1
 have hE:=h.keep w1 w2 hEal
 rcases w4 with ⟨a,b⟩ | ⟨a,b,w5⟩
 · rw [if_pos (by rw [a];decide)]
   exact .inr ⟨a,rfl,b,rest,hE,fun n hn _=>w2 n hn⟩
 rw [if_neg (by rw [a];decide)];have hlaE:=hE.la;obtain ⟨f,f1,f2,f3⟩:=id hlaE
 have hfs:f.d.size=(Rp.rowB r++rest).length:=by rw [<-f2];rfl
 rw [List.length_append] at hfs
 have hcut:Dead E.1 (cutT E.1 (segN (F+(l.length:Int))) (Rp.rowB r).length)\/((cutT E.1 (segN (F+(l.length:Int))) (Rp.rowB r).length).2=0/\(cutT E.1 (segN (F+(l.length:Int))) (Rp.rowB r).length).1.x=false/\
  ∀n,get (cutT E.1 (segN (F+(l.length:Int))) (Rp.rowB r).length).1.f n=if n=segN (F+(l.length:Int)) then some ⟨n,⟨(Rp.rowB r).toArray⟩,((Rp.rowB r).length:Int)⟩ else get E.1.f n):=by
  unfold cutT;rw [hlaE.dat,Option.getD_some,List.length_append]
  split
  · rcases zlC w1 (segN (F+(l.length:Int))) f1 (k:=((Rp.rowB r).length:Int)) (by omega) with h1 | hD
    · exact .inl h1
    · refine .inr ⟨hD.e,hD.y,fun n=>?_⟩
      rw [hD.f]
      by_cases e:n=segN (F+(l.length:Int))
      · rw [if_pos e,if_pos e,e]
        congr 2
        · apply zez.2
          rw [ByteArray.data_extract]
          simp only [Array.toList_extract,List.extract_eq_take_drop,List.drop_zero,Nat.sub_zero,Int.toNat_natCast];rw [f2,List.take_left]
        · omega
      · rw [if_neg e,if_neg e]
  · refine .inr ⟨rfl,b,fun n=>?_⟩
    by_cases e:n=segN (F+(l.length:Int))
    · have h0:rest=[]:=List.length_eq_zero_iff.1 (by omega)
      rw [if_pos e,e,zi0 hlaE,h0,List.append_nil]
    · rw [if_neg e]
 have hright:Right (cutT E.1 (segN (F+(l.length:Int))) (Rp.rowB r).length).1:=by
  unfold cutT
  split
  · have:=w1.act ⟨3,((Rp.rowB r).length:Int),segN (F+(l.length:Int)),⟨#[]⟩,[]⟩
    have e:Dp.act E.1 ⟨3,((Rp.rowB r).length:Int),segN (F+(l.length:Int)),⟨#[]⟩,[]⟩=cut E.1 (segN (F+(l.length:Int))) ((Rp.rowB r).length:Int):=by unfold Dp.act;simp
    rwa [e] at this
  · exact w1
 unfold endT;generalize cutT E.1 (segN (F+(l.length:Int))) (Rp.rowB r).length=C at*
 rcases hcut with g1 | ⟨g1,g2,g3⟩
 · rw [show (if C.2≠0 then C else Dp.sync C.1 (segN (F+(l.length:Int))))=C from if_pos (by rw [g1.e];decide),if_pos (by rw [g1.e];decide)]
   exact .inr ⟨g1.e,rfl,g1.x,rest,hE.keep hright (fun n _=>by show get C.1.f n=_;rw [g1.f]) (fun f hf=>hEal f (by have:f∈C.1.f:=hf;rwa [g1.f] at this)),fun n hn _=>by show get C.1.f n=_;rw [g1.f];exact w2 n hn⟩
 rw [show (if C.2≠0 then C else Dp.sync C.1 (segN (F+(l.length:Int))))=Dp.sync C.1 (segN (F+(l.length:Int))) from if_neg (by rw [g1];decide)]
 have hfr:∀n∈useT m,n≠segN (F+(l.length:Int))->get C.1.f n=get D.f n:=fun n hn h0=>by rw [g3,if_neg h0];exact w2 n hn
 have hCal:∀f∈C.1.f,f.s=(f.d.size:Int):=fun f hf=>by
  have h1:=zdv hright.2.1 hf;rw [g3] at h1
  by_cases e:f.n=segN (F+(l.length:Int))
  · rw [if_pos e] at h1
    have:=Option.some.inj h1
    rw [<-this]
    rfl
  · rw [if_neg e] at h1
    exact hEal f (get_mem h1).1
 have hseg:∀g∈t,segN g.b≠segN (F+(l.length:Int)):=fun g hg e=>by
  have:=h.bases g hg;have:=zcw (by omega) (by omega) (by omega) (by omega) e;omega
 have himg:Img q C.1 m F s0 t l r []:=by
  have hu:=h.use_iff;refine ⟨hright,h.mo,h.ml,h.fl,h.f0,h.ok,h.up,h.fx,h.fu.keep fun g hg=>hfr _ ((hu _).2 (.inr (.inr (.inl ⟨g,hg,rfl⟩)))) (hseg g hg),⟨_,(g3 _).trans (if_pos rfl),by simp,rfl⟩,.inl rfl,h.zq,?_,h.mf.keep (hfr _ ((hu _).2 (.inl rfl)) (za2 (by omega) (by omega)).1.symm),hCal⟩
  rcases h.sn with h6 | ⟨h6,h7,h8,h9,h10⟩
  · exact .inl h6
  · exact .inr ⟨h6,h7,h8,h9,h10.keep (hfr _ ((hu _).2 (.inr (.inl ⟨h6,rfl⟩))) (zaz (by omega) (by omega) (by omega) (by omega)))⟩
 have hS1:=zeT hright (segN (F+(l.length:Int)))
 rcases zcd hright (segN (F+(l.length:Int))) with k1 | ⟨_,k1,_⟩ | ⟨f',k1,hD⟩
 · rw [if_pos (by rw [k1.e];decide)]
   exact .inr ⟨k1.e,rfl,k1.x,[],himg.keep hS1 (fun n _=>by show get (Dp.sync C.1 _).1.f n=_;rw [k1.f]) (fun f hf=>hCal f (by have:f∈(Dp.sync C.1 (segN (F+(l.length:Int)))).1.f:=hf;rwa [k1.f] at this)),fun n hn h0=>by show get (Dp.sync C.1 _).1.f n=_;rw [k1.f];exact hfr n hn h0⟩
 · rw [g3,if_pos rfl] at k1;cases k1
 rw [g3,if_pos rfl] at k1;obtain rfl:=Option.some.inj k1;rw [if_neg (by rw [hD.e];decide)];have hDf:=hD.f;have hDy:=hD.y;clear hD;generalize (Dp.sync C.1 (segN (F+(l.length:Int)))).1=Y at*
 have hY:∀n,get Y.f n=get C.1.f n:=fun n=>by
  rw [hDf]
  by_cases e:n=segN (F+(l.length:Int))
  · rw [if_pos e,e,g3,if_pos rfl]
    rfl
  · rw [if_neg e]
 have hYg:∀n,get Y.f n=if n=segN (F+(l.length:Int)) then some ⟨n,⟨(Rp.rowB r).toArray⟩,((Rp.rowB r).length:Int)⟩ else if n∈useT m then get D.f n else none:=fun n=>by
  rw [hY,g3]
  by_cases e:n=segN (F+(l.length:Int))
  · rw [if_pos e,if_pos e]
  · rw [if_neg e,if_neg e]
    by_cases hu:n∈useT m
    · rw [if_pos hu,w2 n hu]
    · rw [if_neg hu]
      rcases hh:get E.1.f n with _ | f
      · rfl
      · exact absurd (w5 n (by rw [hh];simp)) hu
 have hYi:=himg.keep hS1 (fun n _=>hY n) (fun f hf=>by
  have h1:=zdv hS1.2.1 hf;rw [hY] at h1
  exact hCal f (get_mem h1).1)
 have hlg:lastG (zjA Y m F t l r)=⟨F+(l.length:Int),r.length,(Rp.rowB r).length⟩:=zcm _ _ _
 have hman:man (zjA Y m F t l r)=m:=by
  unfold man zjA;dsimp only;rw [List.map_append];have:=h.ml
  cases m
  dsimp only at this ⊢;rw [this]
  rfl
 refine .inl ⟨rfl,rfl,?_,hYi,hDy,hYg⟩;show Log q (zjA Y m F t l r) F s0 (l++r);refine ⟨hS1,h.ok,h.up,?_,?_,hf0,by show F+(l.length:Int)+(r.length:Int)<=_;omega,by rw [hman];exact h.mo,⟨t,l,r,?_,rfl,hYi.fu,?_,?_,?_,?_,?_⟩,?_,Int.le_refl _,hYi.sn,by rw [hman];exact hYi.mf,fun _ n hn=>?_⟩
 · have h1:=h.fl
   rw [h.ml] at h1
   show ((t++[_]).headD Rt.zero).b=F
   cases t<;>exact h1
 · show F+(l.length:Int)+(r.length:Int)=_
   rw [List.length_append]
   omega
 · rw [hlg];rfl
 · rw [hlg]
 · rw [hlg]
 · rw [hlg]
   obtain ⟨f',p1,p2,p3⟩:=hYi.la
   rw [List.append_nil] at p2;refine ⟨f',p1,p2,?_⟩;have:=zei r (F+(l.length:Int)+(r.length:Int)-(F+(l.length:Int))).toNat;rw [p3,show f'.d.size=f'.d.data.toList.length from rfl,p2];exact Int.ofNat_le.2 this
 · rw [hlg]
 · rw [hlg]
   exact h.zq
 · rw [hlg]
   show F+(l.length:Int)<=F+(l.length:Int)+(r.length:Int)
   omega
 · have hn':get Y.f n≠none:=hn
   rw [hYg] at hn'
   by_cases e:n=segN (F+(l.length:Int))
   · exact .inr (.inr ⟨_,List.mem_append_right _ (List.mem_singleton.2 rfl),e⟩)
   · rw [if_neg e] at hn'
     by_cases hu:n∈useT m
     · rcases (h.use_iff n).1 hu with h1 | h1 | ⟨a,h1,h2⟩ | h1
       · exact .inl h1
       · exact .inr (.inl h1)
       · exact .inr (.inr ⟨a,List.mem_append_left _ h1,h2⟩)
       · exact absurd h1 e
     · rw [if_neg hu] at hn'
       exact absurd rfl hn'
end Lg
section
open Go.RowKit
structure Lay (α:Type) where
 enc:α->List Value
 k:Nat
 len:∀x,(enc x).length=k
 one:∀x,∀u∈enc x,u.oneCell'=true
 pos:0<k
 T:TypeId
 ok:α->Prop
 z:α
variable {α:Type} (Y:Lay α)
def Lay.vals (l:List α):List Value:=l.flatMap Y.enc
theorem Lay.vals_cons (x:α) (l:List α):Y.vals (x::l)=Y.enc x++Y.vals l:=rfl
theorem Lay.vals_append (a b:List α):Y.vals (a++b)=Y.vals a++Y.vals b:=by unfold Lay.vals;simp
theorem Lay.vals_one (x:α):Y.vals [x]=Y.enc x:=by unfold Lay.vals;simp
theorem Lay.vals_len (l:List α):(Y.vals l).length=l.length*Y.k:=by
 induction l with
 | nil=>simp [Lay.vals]
 | cons x l ih=>rw [Lay.vals_cons,List.length_append,ih,Y.len,List.length_cons,Nat.add_mul];omega
theorem Lay.vals_cells (l:List α):∀u∈Y.vals l,u.oneCell'=true:=by
 intro u hu;unfold Lay.vals at hu;rw [List.mem_flatMap] at hu;obtain ⟨x,_,h⟩:=hu;exact Y.one x u h
theorem Lay.vals_take (l:List α):∀i,(Y.vals l).take (i*Y.k)=Y.vals (l.take i):=by
 induction l with
 | nil=>intro i;simp [Lay.vals]
 | cons x l ih=>
  intro i
  cases i with
  | zero=>simp [Lay.vals]
  | succ i=>
   have hn:(i+1)*Y.k=(Y.enc x).length+i*Y.k:=by rw [Y.len,Nat.add_mul,Nat.one_mul,Nat.add_comm]
   rw [Lay.vals_cons,List.take_succ_cons,Lay.vals_cons, <-ih i,hn,List.take_length_add_append]
theorem Lay.vals_drop (l:List α):∀i,(Y.vals l).drop (i*Y.k)=Y.vals (l.drop i):=by
 induction l with
 | nil=>intro i;simp [Lay.vals]
 | cons x l ih=>
  intro i
  cases i with
  | zero=>simp
  | succ i=>
   have hn:(i+1)*Y.k=(Y.enc x).length+i*Y.k:=by rw [Y.len,Nat.add_mul,Nat.one_mul,Nat.add_comm]
   rw [Lay.vals_cons,List.drop_succ_cons, <-ih i,hn,List.drop_length_add_append]
theorem Lay.vals_get (l:List α) (i j:Nat) (hi:i<l.length) (hj:j<Y.k):(Y.vals l)[i*Y.k+j]?=(Y.enc (l.getD i Y.z))[j]?:=by
 have e:l.getD i Y.z=l[i]:=by simp [List.getD_eq_getElem?_getD,hi]
 rw [e, <-List.getElem?_drop,Y.vals_drop,List.drop_eq_getElem_cons hi,Lay.vals_cons,List.getElem?_append_left (by rw [Y.len];exact hj)]
def IsL (w:World) (v:Value) (l:List α):Prop:=
 ∃a cap,v= .slice a l.length cap/\(l.length<=maxLen/\l.length<=cap)/\(∀x∈l,Y.ok x)/\
  (l=[]\/ ∃b off,a=some ⟨b,off,none⟩/\∀j u,(Y.vals l)[j]?=some u->w.cell? ⟨b,off+j,none⟩=some u)
variable {Y}
theorem IsL.nil (w:World) (a:Option Addr) (cap:Nat):IsL Y w (.slice a 0 cap) []:=⟨a,cap,rfl,⟨by simp,by simp⟩,by simp,.inl rfl⟩
theorem IsL.below {B:Nat} {w w':World} {v:Value} {l:List α} (h:IsL Y w v l) (hb:Below B w w') (hB:w.heap.size<=B):IsL Y w' v l:=by
 obtain ⟨a,cap,rfl,h1,h2,h3⟩:=h;refine ⟨a,cap,rfl,h1,h2,?_⟩
 rcases h3 with h3 | ⟨b,off,rfl,h4⟩
 · exact .inl h3
 · refine .inr ⟨b,off,rfl,fun j u hj=>?_⟩
   have c:=h4 j u hj
   exact (hb.cell (p:=⟨b,off+j,none⟩) (Nat.lt_of_lt_of_le (block_lt_of_cell c) hB)).trans c
theorem IsL.keep {w w':World} {v:Value} {l:List α} (h:IsL Y w v l) (hb:Below w.heap.size w w'):IsL Y w' v l:=h.below hb (Nat.le_refl _)
theorem IsL.at_ {w:World} {b off n cap:Nat} {l:List α} (h:IsL Y w (.slice (some ⟨b,off,none⟩) n cap) l) {i:Nat} (hi:i<n):∀j u,(Y.enc (l.getD i Y.z))[j]?=some u->w.cell? ⟨b,off+i*Y.k+j,none⟩=some u:=by
 obtain ⟨a',cap',e,_,_,h3⟩:=h
 injection e with e1 e2 e3
 subst e2;intro j u hj
 have hjk:j<Y.k:=by rw [<-Y.len (l.getD i Y.z)];exact (List.getElem?_eq_some_iff.1 hj).1
 rcases h3 with rfl | ⟨b',off',e,h4⟩
 · simp at hi
 · rw [<-e1] at e
   injection e with e
   injection e with e1 e2
   subst e1 e2;have:=h4 (i*Y.k+j) u (by rw [Y.vals_get l i j hi hjk];exact hj)
   rwa [<-Nat.add_assoc] at this
theorem IsL.len {w:World} {a:Option Addr} {n cap:Nat} {l:List α} (h:IsL Y w (.slice a n cap) l):n=l.length/\l.length<=maxLen:=by
 obtain ⟨a',cap',e,h1,_⟩:=h
 injection e with e1 e2 e3
 exact ⟨e2,h1.1⟩
theorem IsL.room {w:World} {a:Option Addr} {n cap:Nat} {l:List α} (h:IsL Y w (.slice a n cap) l):n<=cap:=by
 obtain ⟨a',cap',e,h1,_⟩:=h
 injection e with e1 e2 e3
 rw [e2,e3];exact h1.2
theorem IsL.ok {w:World} {v:Value} {l:List α} (h:IsL Y w v l):∀x∈l,Y.ok x:=by obtain ⟨_,_,_,_,h2,_⟩:=h;exact h2
theorem IsL.take {w:World} {a:Option Addr} {n cap k:Nat} {l:List α} (h:IsL Y w (.slice a n cap) l) (hk:k<=n):IsL Y w (.slice a k cap) (l.take k):=by
 obtain ⟨a',cap',e,h1,h2,h3⟩:=h
 injection e with e1 e2 e3
 subst e1 e2 e3
 have hl:(l.take k).length=k:=by rw [List.length_take];omega
 refine ⟨a,cap,by rw [hl],⟨by omega,by omega⟩,fun x hx=>h2 x (List.mem_of_mem_take hx),?_⟩
 rcases h3 with rfl | ⟨b,off,rfl,h4⟩
 · exact .inl (by simp)
 · refine .inr ⟨b,off,rfl,fun j u hj=>h4 j u ?_⟩
   rw [<-Y.vals_take,List.getElem?_take] at hj
   split at hj
   · exact hj
   · cases hj
theorem IsL.drop {w:World} {a:Option Addr} {b off n cap k:Nat} {l:List α} (h:IsL Y w (.slice (some ⟨b,off,none⟩) n cap) l) (hk:k<=n) (c:Nat) (hc:n-k<=c) (ha:a=some ⟨b,off+k*Y.k,none⟩\/n=k):IsL Y w (.slice a (n-k) c) (l.drop k):=by
 obtain ⟨a',cap',e,h1,h2,h3⟩:=h
 injection e with e1 e2 e3
 subst e2
 have hl:(l.drop k).length=l.length-k:=by rw [List.length_drop]
 refine ⟨a,c,by rw [hl],⟨by omega,by omega⟩,fun x hx=>h2 x (List.mem_of_mem_drop hx),?_⟩
 by_cases hlt:k<l.length
 · rcases ha with rfl | ha
   · rcases h3 with rfl | ⟨b',off',e,h4⟩
     · simp at hlt
     · rw [<-e1] at e
       injection e with e
       injection e with e1 e2
       subst e1 e2;refine .inr ⟨b,off+k*Y.k,rfl,fun j u hj=>?_⟩;rw [<-Y.vals_drop,List.getElem?_drop] at hj;rw [Nat.add_assoc];exact h4 _ u hj
   · omega
 · exact .inl (List.drop_eq_nil_of_le (by omega))
def OwnL (Y:Lay α) (w:World) (base:Nat) (v:Value) (l:List α):Prop:=w.ownsRow base Y.T Y.k v l.length (Y.vals l)
theorem OwnL.nil (w:World) (base:Nat):OwnL Y w base (.slice none 0 0) []:=World.ownsRow_nil _ _ _ _
theorem OwnL.keep {w w':World} {base:Nat} {v:Value} {l:List α} (h:OwnL Y w base v l) (b:Below w.heap.size w w'):OwnL Y w' base v l:=zau h b
theorem OwnL.alloc {w:World} {base:Nat} {v:Value} {l:List α} (h:OwnL Y w base v l) (o:Obj):OwnL Y (w.alloc o) base v l:=World.ownsRow.alloc h o
theorem OwnL.lt {w:World} {base:Nat} {v:Value} {l:List α} (h:OwnL Y w base v l):∀k,v.ownBlock=some k->base<=k/\k<w.heap.size:=World.ownsRow.lt h
theorem OwnL.is {w:World} {base:Nat} {v:Value} {l:List α} (h:OwnL Y w base v l) (hm:l.length<=maxLen) (hb:∀x∈l,Y.ok x):IsL Y w v l:=by
 rcases h.2 with ⟨rfl,h0⟩ | ⟨g,cap,cur,rfl,h1⟩
 · have:l=[]:=by simpa using h0
   subst this
   exact IsL.nil w none 0
 · refine ⟨some ⟨g,0,none⟩,cap,rfl,⟨hm,h1.2.2.1⟩,hb,.inr ⟨g,0,rfl,fun j u hj=>?_⟩⟩
   have:=World.ownsRow.cells h (g:=g) rfl j u hj
   have e:(⟨g,0,none⟩:Addr).add j=⟨g,0+j,none⟩:=by unfold Addr.add;split<;>simp_all
   rwa [e] at this
theorem OwnL.snoc {w:World} {base n:Nat} {v:Value} {l:List α} {x:α} {cs:List Value} (h:w.ownsRow base Y.T Y.k v (l.length+1) (Y.vals l++cs)) (hc:cs=Y.enc x) (_hn:n=l.length):OwnL Y w base v (l++[x]):=by
 subst hc;unfold OwnL;rw [Y.vals_append,Y.vals_one,List.length_append];exact h
def OutL (Y:Lay α) (w:World) (base:Nat) (l:List α) (e:Ending) (w':World):Prop:=∃v,e= .returned v/\OwnL Y w' base v l/\Below base w w'
theorem OutL.mk {w w':World} {base:Nat} {l:List α} {v:Value} (h:OwnL Y w' base v l) (hb:Below base w w'):OutL Y w base l (.returned v) w':=⟨v,rfl,h,hb⟩
theorem IsL.news {w:World} {b off n cap:Nat} {l:List α} (h:IsL Y w (.slice (some ⟨b,off,none⟩) n cap) l):∀j u,(Y.vals l)[j]?=some u->w.cell? ((⟨b,off,none⟩:Addr).add j)=some u:=by
 obtain ⟨a',cap',e,_,_,h3⟩:=h
 injection e with e1 e2 e3
 intro j u hj
 have ea:(⟨b,off,none⟩:Addr).add j=⟨b,off+j,none⟩:=by unfold Addr.add;split<;>simp_all
 rw [ea]
 rcases h3 with rfl | ⟨b',off',e,h4⟩
 · simp [Lay.vals] at hj
 · rw [<-e1] at e
   injection e with e
   injection e with e1 e2
   subst e1 e2;exact h4 j u hj
theorem zar (w:World) (N:Nat) (cs:List Value) (T:TypeId) (h:w.heap.size=N):∀(j:Nat) (u:Value),cs[j]?=some u->(w.alloc (.cells cs.toArray T)).cell? ((⟨N,0,none⟩:Addr).add j)=some u:=by
 subst h;intro j u h
 have ea:(⟨w.heap.size,0,none⟩:Addr).add j=⟨w.heap.size,j,none⟩:=by unfold Addr.add;split<;>simp_all
 rw [ea,cell_of_row _ _ j cs.toArray T (0,0) (heap_alloc_new w _)]
 simpa using h
theorem zbv {l:List α} {k:Nat} {z:α} (h:k<l.length):l.take (k+1)=l.take k++[l.getD k z]:=by
 rw [List.take_succ_eq_append_getElem h]
 simp [List.getD_eq_getElem?_getD,h]
theorem zao {l:List α} {k:Nat} {z:α} (h:k<l.length):l.getD k z=l[k]:=by simp [List.getD_eq_getElem?_getD,h]
theorem zaB {P:Program} {ops:Array Oper} {o:Oper} {a:Act} {w:World} {K:Act->World->Prop} {Q:Exit->Act->World->Prop} {E:Prop}
 (hg:o.guard=none) (s x:Operand) (t:TypeId) (hop:o.op=Op.call {callee:=Callee.builtin Builtin.append,args:= #[s,x],argTypes:= #[t,t]})
 (base:Nat) (e:TypeId) (i:TypeInfo) (z:Value) (size bytes:Nat) (ht:P.underlying t=some (.slice e)) (hi:P.info? e=some i) (hz:i.zero=some z)
 (hsize:i.size=size) (hby:i.bytes=bytes) (hzs:z.cells.size=size) (hsz:0<size)
 (v:Value) (n:Nat) (xs:List Value) (hs:a.eval s=v) (hown:w.ownsRow base e size v n xs)
 (ad:Addr) (m c:Nat) (news:List Value) (hx:a.eval x= .slice (some ad) m c) (hl:news.length=m*size) (hnews:∀j u,news[j]?=some u->w.cell? (ad.add j)=some u) (h1:∀u∈news,u.oneCell'=true)
 (h63:n+m<=maxLen) (hbytes:(n+m)*bytes<=140737488355328) (hbase:base<=w.heap.size)
 (hK:∀v' w',w'.ownsRow base e size v' (n+m) (xs++news)->w.grownBy w' v.ownBlock->K (a.put o.dst v') w'):
 if Region.wanted o (yielded ops a.tmps)=true then Oper.wp P o a w K Q else E:=by
 have hw:Region.wanted o (yielded ops a.tmps)=true:=by simp [Region.wanted,hg]
 rw [if_pos hw];exact wp_append_own w s x t hop base e i z size bytes ht hi hz hsize hby hzs hsz v n xs hs hown ad m c news hx hl hnews h1 h63 hbytes hbase fun v' w' h2 h3 _=>hK v' w' h2 h3
end
end Go.Proofs.YtgmppfpllogdcaaGreat

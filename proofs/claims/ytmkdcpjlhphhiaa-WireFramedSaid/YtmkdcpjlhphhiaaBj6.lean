/-
  Parts of what the laws of this seat stand on:WirSame,WirSame2,WirRref.
-/
import Derived.Test.YtmkdcpjlhphhiaaBj1
import Derived.BigQuiet
import Derived.Deep.QuietTactic
import Derived.Laws.StructEq
import Derived.Test.YtmkdcpjlhphhiaaBj5
set_option maxRecDepth 100000
set_option maxHeartbeats 6400000
namespace Go.Proofs.Ytmkdcpjlhphhiaa
namespace Wr
open Go.RowKit Qm Wq Mfs
theorem zbw {w:World} {a:Option Addr} {n c:Nat} {l:List Rp.Rec} (h:zae w (.slice a n c) l) {i:Nat} (hi:i<n):
 ∃b off,a=some ⟨b,off,none⟩/\w.cell? ⟨b,off+i*3,none⟩=some (.int .i64 (l.getD i Rp.zero).a)/\w.cell? ⟨b,off+i*3+1,none⟩=some (.int .i64 (l.getD i Rp.zero).t)/\w.cell? ⟨b,off+i*3+2,none⟩=some (.string (l.getD i Rp.zero).d):=by
 obtain ⟨a',c',he,_,_,hc⟩:=h
 injection he with e1 e2 e3
 subst e1 e2
 rcases hc with rfl | ⟨b,off,rfl,h4⟩
 · simp at hi
 · exact ⟨b,off,rfl,h4 i hi⟩
theorem za0 {w:World} {a:Option Addr} {n c:Nat} {l:List Rp.Rec} (h:zae w (.slice a n c) l):n=l.length/\n<=9223372036854775807:=by
 obtain ⟨a',c',he,hm,_⟩:=h
 injection he with _ e2 _
 unfold maxLen at hm;exact ⟨e2,by omega⟩
theorem zbr {w:World} {v:Value} {l:List Rp.Rec} (h:zae w v l):∃a n c,v= .slice a n c:=by obtain ⟨a,c,h,_⟩:=h;exact ⟨a,_,c,h⟩
theorem zdI {a b:ByteArray} (h:a.toList=b.toList):a=b:=by
 apply ByteArray.ext
 apply Array.ext'
 rw [ByteArray.toList_eq,ByteArray.toList_eq] at h;exact h
theorem zef (r s:Rp.Rec):r=s\/(r≠s/\(r.a==s.a)=false)\/(r≠s/\(r.a==s.a)=true/\(r.t==s.t)=false)\/(r≠s/\(r.a==s.a)=true/\(r.t==s.t)=true/\(r.d.toList==s.d.toList)=false):=by
 obtain ⟨a,t,d⟩:=r;obtain ⟨a',t',d'⟩:=s;dsimp only
 by_cases h1:a=a'
 · by_cases h2:t=t'
   · by_cases h3:d=d'
     · subst h1 h2 h3;exact .inl rfl
     · exact .inr (.inr (.inr ⟨fun e=>h3 (by injection e),by simpa using h1,by simpa using h2,by
        rw [<-Bool.not_eq_true,beq_iff_eq]
        exact fun e=>h3 (zdI e)⟩))
   · exact .inr (.inr (.inl ⟨fun e=>h2 (by injection e),by simpa using h1,by simpa using h2⟩))
 · exact .inr (.inl ⟨fun e=>h1 (by injection e),by simpa using h1⟩)
theorem zed {rs ss:List Rp.Rec} (hl:rs.length=ss.length) (h:∀i,i<rs.length->rs.getD i Rp.zero=ss.getD i Rp.zero):rs=ss:=by
 apply List.ext_getElem hl
 intro i h1 h2;have:=h i h1
 rwa [show rs.getD i Rp.zero=rs[i] by simp [List.getD_eq_getElem?_getD,h1],show ss.getD i Rp.zero=ss[i] by simp [List.getD_eq_getElem?_getD,h2]] at this
theorem zdP (v1 v2:Value) (rs ss:List Rp.Rec) (b:Bool) (w:World) (h1:zae w v1 rs) (h2:zae w v2 ss) (hb:b=true↔rs=ss):
 Calls Try.prog 32 #[v1,v2] w fun e w'=>e= .returned (.bool b)/\∃n,w'=w.drewN n:=by
 obtain ⟨fa,fn,fc,rfl⟩:=zbr h1;obtain ⟨ga,gn,gc,rfl⟩:=zbr h2;obtain ⟨e1,m1⟩:=za0 h1;obtain ⟨e2,m2⟩:=za0 h2;have HN:=zid (show ¬rs=ss->b=false from fun h=>by rw [<-Bool.not_eq_true,hb];exact h);have HY:=zid hb.2;have H1:=zid h1;have H2:=zid h2;have HE1:=zid e1;have HE2:=zid e2;clear hb h1 h2 e1 e2
 by_cases hl:fn=gn
 rotate_left
 · have HF:=zid (HN.out fun e=>hl (by rw [HE1.out,HE2.out,e]))
   have hne:((fn:Int) != (gn:Int))=true:=by rw [bne_iff_ne];omega
   clear hl
   go_enter Try.func32,Try.ntmps32
   go_wp2_with fail;go_ret;exact ⟨by rw [HF.out];rfl,0,rfl⟩
 obtain rfl:=hl
 go_enter Try.func32,Try.ntmps32
 go_wp2_with fail
 go_loopw [5] (fun i wr=>∃k n:Nat,k<=fn/\i= .int .i64 k/\(∀j,j<k->rs.getD j Rp.zero=ss.getD j Rp.zero)/\wr=w.drewN n) (fun i _=>fn-(intOf i).toNat)
 case atStart=>exact ⟨0,0,Nat.zero_le _,rfl,fun j hj=>absurd hj (Nat.not_lt_zero j),rfl⟩
 case round=>
  obtain ⟨k,n,hk,rfl,hs,rfl⟩:=hrel;have HS:=zid hs;clear hs
  by_cases hlt:k<fn
  · obtain ⟨g,off,rfl,c0,c1,c2⟩:=zbw H1.out hlt
    obtain ⟨g',off',rfl,d0,d1,d2⟩:=zbw H2.out hlt
    have HNX:=zid (show rs.getD k Rp.zero=ss.getD k Rp.zero->∀j,j<k+1->rs.getD j Rp.zero=ss.getD j Rp.zero from fun h j hj=>by
     by_cases e:j=k
     · rw [e];exact h
     · exact HS.out j (by omega))
    have HBD:=zid (show rs.getD k Rp.zero≠ss.getD k Rp.zero->b=false from fun h=>HN.out fun e=>h (by rw [e]));generalize rs.getD k Rp.zero=r at*;generalize ss.getD k Rp.zero=s at*
    rcases zef r s with rfl | ⟨hne,q1⟩ | ⟨hne,q1,q2⟩ | ⟨hne,q1,q2,q3⟩
    · have HF:=zid (HNX.out rfl)
      go_wp2_with fail
      go_quiet (fail)
      go_wp2_with fail
      go_roundw
      case rel=>exact ⟨k+1,_,by omega,by go_num,HF.out,rfl⟩
      case measure=>simp [intOf];omega
    all_goals
     have HF:=zid (HBD.out hne)
     clear hne;go_wp2_with fail
     go_quiet (fail)
     go_wp2_with fail;go_ret;exact ⟨by rw [HF.out];rfl,_,zdG _ _ _⟩
  · obtain rfl:k=fn:=by omega
    have HF:=zid (HY.out (zed (by rw [<-HE1.out, <-HE2.out]) fun i hi=>HS.out i (by rw [HE1.out];exact hi)))
    go_wp2_with fail;go_ret;exact ⟨by rw [HF.out];rfl,_,rfl⟩
theorem zfM (v1 v2:Value) (rs ss:List Rp.Rec) (b:Bool) (w:World) (h1:zae w v1 rs) (h2:zae w v2 ss) (hb:b=true↔rs=ss):
 Calls Try.prog 35 #[v1,v2] w fun e w'=>e= .returned (.bool b)/\∃n,w'=w.drewN n:=by
 obtain ⟨fa,fn,fc,rfl⟩:=zbr h1;obtain ⟨ga,gn,gc,rfl⟩:=zbr h2;obtain ⟨e1,m1⟩:=za0 h1;obtain ⟨e2,m2⟩:=za0 h2;have HN:=zid (show ¬rs=ss->b=false from fun h=>by rw [<-Bool.not_eq_true,hb];exact h);have HY:=zid hb.2;have H1:=zid h1;have H2:=zid h2;have HE1:=zid e1;have HE2:=zid e2;clear hb h1 h2 e1 e2
 by_cases hl:fn=gn
 rotate_left
 · have HF:=zid (HN.out fun e=>hl (by rw [HE1.out,HE2.out,e]))
   have hne:((fn:Int) != (gn:Int))=true:=by rw [bne_iff_ne];omega
   clear hl
   go_enter Try.func35,Try.ntmps35
   go_wp2_with fail;go_ret;exact ⟨by rw [HF.out];rfl,0,rfl⟩
 obtain rfl:=hl
 go_enter Try.func35,Try.ntmps35
 go_wp2_with fail
 go_loopw [13] (fun i wr=>∃k n:Nat,k<=fn/\i= .int .i64 k/\(∀j,j<k->rs.getD j Rp.zero=ss.getD j Rp.zero)/\wr=w.drewN n) (fun i _=>fn-(intOf i).toNat)
 case atStart=>exact ⟨0,0,Nat.zero_le _,rfl,fun j hj=>absurd hj (Nat.not_lt_zero j),rfl⟩
 case round=>
  obtain ⟨k,n,hk,rfl,hs,rfl⟩:=hrel;have HS:=zid hs;clear hs
  by_cases hlt:k<fn
  · obtain ⟨g,off,rfl,c0,c1,c2⟩:=zbw H1.out hlt
    obtain ⟨g',off',rfl,d0,d1,d2⟩:=zbw H2.out hlt
    have HNX:=zid (show rs.getD k Rp.zero=ss.getD k Rp.zero->∀j,j<k+1->rs.getD j Rp.zero=ss.getD j Rp.zero from fun h j hj=>by
     by_cases e:j=k
     · rw [e];exact h
     · exact HS.out j (by omega))
    have HBD:=zid (show rs.getD k Rp.zero≠ss.getD k Rp.zero->b=false from fun h=>HN.out fun e=>h (by rw [e]));generalize rs.getD k Rp.zero=r at*;generalize ss.getD k Rp.zero=s at*
    rcases zef r s with rfl | ⟨hne,q1⟩ | ⟨hne,q1,q2⟩ | ⟨hne,q1,q2,q3⟩
    · have HF:=zid (HNX.out rfl)
      go_wp2_with fail
      go_quiet (fail)
      go_wp2_with fail
      go_roundw
      case rel=>exact ⟨k+1,_,by omega,by go_num,HF.out,rfl⟩
      case measure=>simp [intOf];omega
    all_goals
     have HF:=zid (HBD.out hne)
     clear hne;go_wp2_with fail
     go_quiet (fail)
     go_wp2_with fail;go_ret;exact ⟨by rw [HF.out];rfl,_,zdG _ _ _⟩
  · obtain rfl:k=fn:=by omega
    have HF:=zid (HY.out (zed (by rw [<-HE1.out, <-HE2.out]) fun i hi=>HS.out i (by rw [HE1.out];exact hi)))
    go_wp2_with fail;go_ret;exact ⟨by rw [HF.out];rfl,_,rfl⟩
theorem zdi (m n:Ms) (b:Bool) (hb:b=true↔m=n):
 ((m.k==n.k)=false/\b=false)\/
 ((m.k==n.k)=true/\(m.f==n.f)=false/\b=false)\/
 ((m.k==n.k)=true/\(m.f==n.f)=true/\(m.t==n.t)=false/\b=false)\/
 ((m.k==n.k)=true/\(m.f==n.f)=true/\(m.t==n.t)=true/\(m.i==n.i)=false/\b=false)\/
 ((m.k==n.k)=true/\(m.f==n.f)=true/\(m.t==n.t)=true/\(m.i==n.i)=true/\(m.p==n.p)=false/\b=false)\/
 ((m.k==n.k)=true/\(m.f==n.f)=true/\(m.t==n.t)=true/\(m.i==n.i)=true/\(m.p==n.p)=true/\(m.q==n.q)=false/\b=false)\/
 ((m.k==n.k)=true/\(m.f==n.f)=true/\(m.t==n.t)=true/\(m.i==n.i)=true/\(m.p==n.p)=true/\(m.q==n.q)=true/\(m.a==n.a)=false/\b=false)\/
 ((m.k==n.k)=true/\(m.f==n.f)=true/\(m.t==n.t)=true/\(m.i==n.i)=true/\(m.p==n.p)=true/\(m.q==n.q)=true/\(m.a==n.a)=true/\(m.wd==n.wd)=false/\b=false)\/
 ((m.k==n.k)=true/\(m.f==n.f)=true/\(m.t==n.t)=true/\(m.i==n.i)=true/\(m.p==n.p)=true/\(m.q==n.q)=true/\(m.a==n.a)=true/\(m.wd==n.wd)=true/\(m.h==n.h)=false/\b=false)\/
 ((m.k==n.k)=true/\(m.f==n.f)=true/\(m.t==n.t)=true/\(m.i==n.i)=true/\(m.p==n.p)=true/\(m.q==n.q)=true/\(m.a==n.a)=true/\(m.wd==n.wd)=true/\(m.h==n.h)=true/\(m.wt==n.wt)=false/\b=false)\/
 ((m.k==n.k)=true/\(m.f==n.f)=true/\(m.t==n.t)=true/\(m.i==n.i)=true/\(m.p==n.p)=true/\(m.q==n.q)=true/\(m.a==n.a)=true/\(m.wd==n.wd)=true/\(m.h==n.h)=true/\(m.wt==n.wt)=true/\(m.x==n.x)=false/\b=false)\/
 ((m.k==n.k)=true/\(m.f==n.f)=true/\(m.t==n.t)=true/\(m.i==n.i)=true/\(m.p==n.p)=true/\(m.q==n.q)=true/\(m.a==n.a)=true/\(m.wd==n.wd)=true/\(m.h==n.h)=true/\(m.wt==n.wt)=true/\(m.x==n.x)=true/\(m.z==n.z)=false/\b=false)\/
 ((m.k==n.k)=true/\(m.f==n.f)=true/\(m.t==n.t)=true/\(m.i==n.i)=true/\(m.p==n.p)=true/\(m.q==n.q)=true/\(m.a==n.a)=true/\(m.wd==n.wd)=true/\(m.h==n.h)=true/\(m.wt==n.wt)=true/\(m.x==n.x)=true/\(m.z==n.z)=true/\(m.s==n.s)=false/\b=false)\/
 ((m.k==n.k)=true/\(m.f==n.f)=true/\(m.t==n.t)=true/\(m.i==n.i)=true/\(m.p==n.p)=true/\(m.q==n.q)=true/\(m.a==n.a)=true/\(m.wd==n.wd)=true/\(m.h==n.h)=true/\(m.wt==n.wt)=true/\(m.x==n.x)=true/\(m.z==n.z)=true/\(m.s==n.s)=true/\(m.d.toList==n.d.toList)=false/\b=false)\/
 ((m.k==n.k)=true/\(m.f==n.f)=true/\(m.t==n.t)=true/\(m.i==n.i)=true/\(m.p==n.p)=true/\(m.q==n.q)=true/\(m.a==n.a)=true/\(m.wd==n.wd)=true/\(m.h==n.h)=true/\(m.wt==n.wt)=true/\(m.x==n.x)=true/\(m.z==n.z)=true/\(m.s==n.s)=true/\(m.d.toList==n.d.toList)=true/\(b=true↔m.l=n.l)):=by
 have no:m≠n->b=false:=fun h=>by rw [<-Bool.not_eq_true,hb];exact h
 rcases h0:(m.k==n.k) with _ | _
 · exact .inl ⟨rfl,no fun e=>by rw [e] at h0;simp at h0⟩
 rcases h1:(m.f==n.f) with _ | _
 · exact .inr (.inl ⟨rfl,rfl,no fun e=>by rw [e] at h1;simp at h1⟩)
 rcases h2:(m.t==n.t) with _ | _
 · exact .inr (.inr (.inl ⟨rfl,rfl,rfl,no fun e=>by rw [e] at h2;simp at h2⟩))
 rcases h3:(m.i==n.i) with _ | _
 · exact .inr (.inr (.inr (.inl ⟨rfl,rfl,rfl,rfl,no fun e=>by rw [e] at h3;simp at h3⟩)))
 rcases h4:(m.p==n.p) with _ | _
 · exact .inr (.inr (.inr (.inr (.inl ⟨rfl,rfl,rfl,rfl,rfl,no fun e=>by rw [e] at h4;simp at h4⟩))))
 rcases h5:(m.q==n.q) with _ | _
 · exact .inr (.inr (.inr (.inr (.inr (.inl ⟨rfl,rfl,rfl,rfl,rfl,rfl,no fun e=>by rw [e] at h5;simp at h5⟩)))))
 rcases h6:(m.a==n.a) with _ | _
 · exact .inr (.inr (.inr (.inr (.inr (.inr (.inl ⟨rfl,rfl,rfl,rfl,rfl,rfl,rfl,no fun e=>by rw [e] at h6;simp at h6⟩))))))
 rcases h7:(m.wd==n.wd) with _ | _
 · exact .inr (.inr (.inr (.inr (.inr (.inr (.inr (.inl ⟨rfl,rfl,rfl,rfl,rfl,rfl,rfl,rfl,no fun e=>by rw [e] at h7;simp at h7⟩)))))))
 rcases h8:(m.h==n.h) with _ | _
 · exact .inr (.inr (.inr (.inr (.inr (.inr (.inr (.inr (.inl ⟨rfl,rfl,rfl,rfl,rfl,rfl,rfl,rfl,rfl,no fun e=>by rw [e] at h8;simp at h8⟩))))))))
 rcases h9:(m.wt==n.wt) with _ | _
 · exact .inr (.inr (.inr (.inr (.inr (.inr (.inr (.inr (.inr (.inl ⟨rfl,rfl,rfl,rfl,rfl,rfl,rfl,rfl,rfl,rfl,no fun e=>by rw [e] at h9;simp at h9⟩)))))))))
 rcases h10:(m.x==n.x) with _ | _
 · exact .inr (.inr (.inr (.inr (.inr (.inr (.inr (.inr (.inr (.inr (.inl ⟨rfl,rfl,rfl,rfl,rfl,rfl,rfl,rfl,rfl,rfl,rfl,no fun e=>by rw [e] at h10;simp at h10⟩))))))))))
 rcases h11:(m.z==n.z) with _ | _
 · exact .inr (.inr (.inr (.inr (.inr (.inr (.inr (.inr (.inr (.inr (.inr (.inl ⟨rfl,rfl,rfl,rfl,rfl,rfl,rfl,rfl,rfl,rfl,rfl,rfl,no fun e=>by rw [e] at h11;simp at h11⟩)))))))))))
 rcases h12:(m.s==n.s) with _ | _
 · exact .inr (.inr (.inr (.inr (.inr (.inr (.inr (.inr (.inr (.inr (.inr (.inr (.inl ⟨rfl,rfl,rfl,rfl,rfl,rfl,rfl,rfl,rfl,rfl,rfl,rfl,rfl,no fun e=>by rw [e] at h12;simp at h12⟩))))))))))))
 rcases h13:(m.d.toList==n.d.toList) with _ | _
 · exact .inr (.inr (.inr (.inr (.inr (.inr (.inr (.inr (.inr (.inr (.inr (.inr (.inr (.inl ⟨rfl,rfl,rfl,rfl,rfl,rfl,rfl,rfl,rfl,rfl,rfl,rfl,rfl,rfl,no fun e=>by rw [e] at h13;simp at h13⟩)))))))))))))
 refine .inr (.inr (.inr (.inr (.inr (.inr (.inr (.inr (.inr (.inr (.inr (.inr (.inr (.inr (⟨rfl,rfl,rfl,rfl,rfl,rfl,rfl,rfl,rfl,rfl,rfl,rfl,rfl,rfl,?_⟩))))))))))))));rw [hb];rw [beq_iff_eq] at h0 h1 h2 h3 h4 h5 h6 h7 h8 h9 h10 h11 h12 h13;obtain ⟨k,f,t,i,p,q,a,wd,h,wt,x,z,s,d,l⟩:=m;obtain ⟨k',f',t',i',p',q',a',wd',h',wt',x',z',s',d',l'⟩:=n;dsimp only at*;replace h13:=zdI h13;subst h0 h1 h2 h3 h4 h5 h6 h7 h8 h9 h10 h11 h12 h13;exact ⟨fun e=>by injection e,fun e=>by rw [e]⟩
theorem zaL (va:Option Addr) (vn vc:Nat) (ua:Option Addr) (un uc:Nat) (m n:Ms) (b:Bool) (w:World) (h1:zae w (.slice va vn vc) m.l) (h2:zae w (.slice ua un uc) n.l) (hb:b=true↔m=n):
 Calls Try.prog 15 #[zag (.slice va vn vc) m,zag (.slice ua un uc) n] w fun e w'=>e= .returned (.bool b)/\Below w.heap.size w w':=by
 have D:=zdi m n b hb;clear hb;unfold zag;obtain ⟨k,f,t,i,p,q,a,wd,h,wt,x,z,s,d,l⟩:=m;obtain ⟨k',f',t',i',p',q',a',wd',h',wt',x',z',s',d',l'⟩:=n;dsimp only at*;have B1:=(Below.refl w.heap.size w).alloc (Nat.le_refl _) (.cells #[.int .i64 k,.int .i64 f,.int .i64 t,.int .i64 i,.int .i64 p,.int .i64 q,.int .i64 a,.int .i64 wd,.int .i64 h,.int .i64 wt,.int .i64 x,.int .i64 z,.int .u32 s,.string d,.slice va vn vc] 25);have B2:=B1.alloc B1.size (.cells #[.int .i64 k',.int .i64 f',.int .i64 t',.int .i64 i',.int .i64 p',.int .i64 q',.int .i64 a',.int .i64 wd',.int .i64 h',.int .i64 wt',.int .i64 x',.int .i64 z',.int .u32 s',.string d',.slice ua un uc] 25);have HA:=zid B2;have E:=zid fun (hl:b=true↔l=l')=>zdP _ _ l l' b _ (zab h1 B2) (zab h2 B2) hl;have g1:=zav w #[.int .i64 k,.int .i64 f,.int .i64 t,.int .i64 i,.int .i64 p,.int .i64 q,.int .i64 a,.int .i64 wd,.int .i64 h,.int .i64 wt,.int .i64 x,.int .i64 z,.int .u32 s,.string d,.slice va vn vc];have g2:=zav (w.alloc (.cells #[.int .i64 k,.int .i64 f,.int .i64 t,.int .i64 i,.int .i64 p,.int .i64 q,.int .i64 a,.int .i64 wd,.int .i64 h,.int .i64 wt,.int .i64 x,.int .i64 z,.int .u32 s,.string d,.slice va vn vc] 25)) #[.int .i64 k',.int .i64 f',.int .i64 t',.int .i64 i',.int .i64 p',.int .i64 q',.int .i64 a',.int .i64 wd',.int .i64 h',.int .i64 wt',.int .i64 x',.int .i64 z',.int .u32 s',.string d',.slice ua un uc];have g3:=(Below.heap_alloc (w.alloc (.cells #[.int .i64 k,.int .i64 f,.int .i64 t,.int .i64 i,.int .i64 p,.int .i64 q,.int .i64 a,.int .i64 wd,.int .i64 h,.int .i64 wt,.int .i64 x,.int .i64 z,.int .u32 s,.string d,.slice va vn vc] 25)) (.cells #[.int .i64 k',.int .i64 f',.int .i64 t',.int .i64 i',.int .i64 p',.int .i64 q',.int .i64 a',.int .i64 wd',.int .i64 h',.int .i64 wt',.int .i64 x',.int .i64 z',.int .u32 s',.string d',.slice ua un uc] 25) w.heap.size (by simp)).trans g1;rw [show (w.alloc (.cells #[.int .i64 k,.int .i64 f,.int .i64 t,.int .i64 i,.int .i64 p,.int .i64 q,.int .i64 a,.int .i64 wd,.int .i64 h,.int .i64 wt,.int .i64 x,.int .i64 z,.int .u32 s,.string d,.slice va vn vc] 25)).heap.size=w.heap.size+1 by simp] at g2;clear g1 B1 B2 h1 h2;obtain ⟨x0,x1,x2,x3,x4,x5,x6,x7,x8,x9,x10,x11,x12,x13,x14⟩:=zaa g3;obtain ⟨y0,y1,y2,y3,y4,y5,y6,y7,y8,y9,y10,y11,y12,y13,y14⟩:=zaa g2;clear g2 g3;obtain ⟨A,hA⟩:∃A,Obj.cells #[.int .i64 k,.int .i64 f,.int .i64 t,.int .i64 i,.int .i64 p,.int .i64 q,.int .i64 a,.int .i64 wd,.int .i64 h,.int .i64 wt,.int .i64 x,.int .i64 z,.int .u32 s,.string d,.slice va vn vc] 25=A:=⟨_,rfl⟩;obtain ⟨B,hB⟩:∃B,Obj.cells #[.int .i64 k',.int .i64 f',.int .i64 t',.int .i64 i',.int .i64 p',.int .i64 q',.int .i64 a',.int .i64 wd',.int .i64 h',.int .i64 wt',.int .i64 x',.int .i64 z',.int .u32 s',.string d',.slice ua un uc] 25=B:=⟨_,rfl⟩;rw [hA,hB] at x0 x1 x2 x3 x4 x5 x6 x7 x8 x9 x10 x11 x12 x13 x14 y0 y1 y2 y3 y4 y5 y6 y7 y8 y9 y10 y11 y12 y13 y14 HA E;obtain ⟨W,hW⟩:∃W,(w.alloc A).alloc B=W:=⟨_,rfl⟩;rw [hW] at x0 x1 x2 x3 x4 x5 x6 x7 x8 x9 x10 x11 x12 x13 x14 y0 y1 y2 y3 y4 y5 y6 y7 y8 y9 y10 y11 y12 y13 y14 HA E
 rcases D with ⟨q0,rfl⟩ | ⟨q0,q1,rfl⟩ | ⟨q0,q1,q2,rfl⟩ | ⟨q0,q1,q2,q3,rfl⟩ | ⟨q0,q1,q2,q3,q4,rfl⟩ | ⟨q0,q1,q2,q3,q4,q5,rfl⟩ | ⟨q0,q1,q2,q3,q4,q5,q6,rfl⟩ | ⟨q0,q1,q2,q3,q4,q5,q6,q7,rfl⟩ | ⟨q0,q1,q2,q3,q4,q5,q6,q7,q8,rfl⟩ | ⟨q0,q1,q2,q3,q4,q5,q6,q7,q8,q9,rfl⟩ | ⟨q0,q1,q2,q3,q4,q5,q6,q7,q8,q9,q10,rfl⟩ | ⟨q0,q1,q2,q3,q4,q5,q6,q7,q8,q9,q10,q11,rfl⟩ | ⟨q0,q1,q2,q3,q4,q5,q6,q7,q8,q9,q10,q11,q12,rfl⟩ | ⟨q0,q1,q2,q3,q4,q5,q6,q7,q8,q9,q10,q11,q12,q13,rfl⟩ | ⟨q0,q1,q2,q3,q4,q5,q6,q7,q8,q9,q10,q11,q12,q13,hl⟩
 iterate 14
  · go_enter Try.func15,Try.ntmps15
    simp only [List.append]
    go_wp2_with fail;go_ret;exact ⟨rfl,HA.out⟩
 have E:=zid (E.out hl);clear hl
 go_enter Try.func15,Try.ntmps15
 simp only [List.append];go_wp2_with fail;refine E.out.mono ?_;rintro e w1 ⟨rfl,k,rfl⟩;have HB:=zid (HA.out.trans ((zaw k).mono HA.out.size));go_wp2_with fail;go_ret;exact ⟨rfl,HB.out⟩
theorem zbf (va:Option Addr) (vn vc:Nat) (ua:Option Addr) (un uc:Nat) (m n:Ms) (b:Bool) (w:World) (h1:zae w (.slice va vn vc) m.l) (h2:zae w (.slice ua un uc) n.l) (hb:b=true↔m=n):
 Calls Try.prog 17 #[zag (.slice va vn vc) m,zag (.slice ua un uc) n] w fun e w'=>e= .returned (.bool b)/\Below w.heap.size w w':=by
 have D:=zdi m n b hb;clear hb;unfold zag;obtain ⟨k,f,t,i,p,q,a,wd,h,wt,x,z,s,d,l⟩:=m;obtain ⟨k',f',t',i',p',q',a',wd',h',wt',x',z',s',d',l'⟩:=n;dsimp only at*;have B1:=(Below.refl w.heap.size w).alloc (Nat.le_refl _) (.cells #[.int .i64 k,.int .i64 f,.int .i64 t,.int .i64 i,.int .i64 p,.int .i64 q,.int .i64 a,.int .i64 wd,.int .i64 h,.int .i64 wt,.int .i64 x,.int .i64 z,.int .u32 s,.string d,.slice va vn vc] 25);have B2:=B1.alloc B1.size (.cells #[.int .i64 k',.int .i64 f',.int .i64 t',.int .i64 i',.int .i64 p',.int .i64 q',.int .i64 a',.int .i64 wd',.int .i64 h',.int .i64 wt',.int .i64 x',.int .i64 z',.int .u32 s',.string d',.slice ua un uc] 25);have HA:=zid B2;have E:=zid fun (hl:b=true↔l=l')=>zfM _ _ l l' b _ (zab h1 B2) (zab h2 B2) hl;have g1:=zav w #[.int .i64 k,.int .i64 f,.int .i64 t,.int .i64 i,.int .i64 p,.int .i64 q,.int .i64 a,.int .i64 wd,.int .i64 h,.int .i64 wt,.int .i64 x,.int .i64 z,.int .u32 s,.string d,.slice va vn vc];have g2:=zav (w.alloc (.cells #[.int .i64 k,.int .i64 f,.int .i64 t,.int .i64 i,.int .i64 p,.int .i64 q,.int .i64 a,.int .i64 wd,.int .i64 h,.int .i64 wt,.int .i64 x,.int .i64 z,.int .u32 s,.string d,.slice va vn vc] 25)) #[.int .i64 k',.int .i64 f',.int .i64 t',.int .i64 i',.int .i64 p',.int .i64 q',.int .i64 a',.int .i64 wd',.int .i64 h',.int .i64 wt',.int .i64 x',.int .i64 z',.int .u32 s',.string d',.slice ua un uc];have g3:=(Below.heap_alloc (w.alloc (.cells #[.int .i64 k,.int .i64 f,.int .i64 t,.int .i64 i,.int .i64 p,.int .i64 q,.int .i64 a,.int .i64 wd,.int .i64 h,.int .i64 wt,.int .i64 x,.int .i64 z,.int .u32 s,.string d,.slice va vn vc] 25)) (.cells #[.int .i64 k',.int .i64 f',.int .i64 t',.int .i64 i',.int .i64 p',.int .i64 q',.int .i64 a',.int .i64 wd',.int .i64 h',.int .i64 wt',.int .i64 x',.int .i64 z',.int .u32 s',.string d',.slice ua un uc] 25) w.heap.size (by simp)).trans g1;rw [show (w.alloc (.cells #[.int .i64 k,.int .i64 f,.int .i64 t,.int .i64 i,.int .i64 p,.int .i64 q,.int .i64 a,.int .i64 wd,.int .i64 h,.int .i64 wt,.int .i64 x,.int .i64 z,.int .u32 s,.string d,.slice va vn vc] 25)).heap.size=w.heap.size+1 by simp] at g2;clear g1 B1 B2 h1 h2;obtain ⟨x0,x1,x2,x3,x4,x5,x6,x7,x8,x9,x10,x11,x12,x13,x14⟩:=zaa g3;obtain ⟨y0,y1,y2,y3,y4,y5,y6,y7,y8,y9,y10,y11,y12,y13,y14⟩:=zaa g2;clear g2 g3;obtain ⟨A,hA⟩:∃A,Obj.cells #[.int .i64 k,.int .i64 f,.int .i64 t,.int .i64 i,.int .i64 p,.int .i64 q,.int .i64 a,.int .i64 wd,.int .i64 h,.int .i64 wt,.int .i64 x,.int .i64 z,.int .u32 s,.string d,.slice va vn vc] 25=A:=⟨_,rfl⟩;obtain ⟨B,hB⟩:∃B,Obj.cells #[.int .i64 k',.int .i64 f',.int .i64 t',.int .i64 i',.int .i64 p',.int .i64 q',.int .i64 a',.int .i64 wd',.int .i64 h',.int .i64 wt',.int .i64 x',.int .i64 z',.int .u32 s',.string d',.slice ua un uc] 25=B:=⟨_,rfl⟩;rw [hA,hB] at x0 x1 x2 x3 x4 x5 x6 x7 x8 x9 x10 x11 x12 x13 x14 y0 y1 y2 y3 y4 y5 y6 y7 y8 y9 y10 y11 y12 y13 y14 HA E;obtain ⟨W,hW⟩:∃W,(w.alloc A).alloc B=W:=⟨_,rfl⟩;rw [hW] at x0 x1 x2 x3 x4 x5 x6 x7 x8 x9 x10 x11 x12 x13 x14 y0 y1 y2 y3 y4 y5 y6 y7 y8 y9 y10 y11 y12 y13 y14 HA E
 rcases D with ⟨q0,rfl⟩ | ⟨q0,q1,rfl⟩ | ⟨q0,q1,q2,rfl⟩ | ⟨q0,q1,q2,q3,rfl⟩ | ⟨q0,q1,q2,q3,q4,rfl⟩ | ⟨q0,q1,q2,q3,q4,q5,rfl⟩ | ⟨q0,q1,q2,q3,q4,q5,q6,rfl⟩ | ⟨q0,q1,q2,q3,q4,q5,q6,q7,rfl⟩ | ⟨q0,q1,q2,q3,q4,q5,q6,q7,q8,rfl⟩ | ⟨q0,q1,q2,q3,q4,q5,q6,q7,q8,q9,rfl⟩ | ⟨q0,q1,q2,q3,q4,q5,q6,q7,q8,q9,q10,rfl⟩ | ⟨q0,q1,q2,q3,q4,q5,q6,q7,q8,q9,q10,q11,rfl⟩ | ⟨q0,q1,q2,q3,q4,q5,q6,q7,q8,q9,q10,q11,q12,rfl⟩ | ⟨q0,q1,q2,q3,q4,q5,q6,q7,q8,q9,q10,q11,q12,q13,rfl⟩ | ⟨q0,q1,q2,q3,q4,q5,q6,q7,q8,q9,q10,q11,q12,q13,hl⟩
 iterate 14
  · go_enter Try.func17,Try.ntmps17
    simp only [List.append]
    go_wp2_with fail;go_ret;exact ⟨rfl,HA.out⟩
 have E:=zid (E.out hl);clear hl
 go_enter Try.func17,Try.ntmps17
 simp only [List.append];go_wp2_with fail;refine E.out.mono ?_;rintro e w1 ⟨rfl,k,rfl⟩;have HB:=zid (HA.out.trans ((zaw k).mono HA.out.size));go_wp2_with fail;go_ret;exact ⟨rfl,HB.out⟩
theorem doc_head (m:Ms) (b:Bool) (hb:b=true↔Ok m):
 (inI m.f 0 7=false/\b=false)\/(inI m.f 0 7=true/\inI m.t 0 7=false/\b=false)\/(inI m.f 0 7=true/\inI m.t 0 7=true/\(m.f==m.t)=true/\b=false)\/
 (inI m.f 0 7=true/\inI m.t 0 7=true/\(m.f==m.t)=false/\decide (m.i<1)=true/\b=false)\/
 (inI m.f 0 7=true/\inI m.t 0 7=true/\(m.f==m.t)=false/\decide (m.i<1)=false/\inI m.i 0 1099511627776=false/\b=false)\/
 (inI m.f 0 7=true/\inI m.t 0 7=true/\(m.f==m.t)=false/\decide (m.i<1)=false/\inI m.i 0 1099511627776=true/\inI m.p 0 1099511627776=false/\b=false)\/
 (inI m.f 0 7=true/\inI m.t 0 7=true/\(m.f==m.t)=false/\decide (m.i<1)=false/\inI m.i 0 1099511627776=true/\inI m.p 0 1099511627776=true/\inI m.q 0 1099511627776=false/\b=false)\/
 (inI m.f 0 7=true/\inI m.t 0 7=true/\(m.f==m.t)=false/\decide (m.i<1)=false/\inI m.i 0 1099511627776=true/\inI m.p 0 1099511627776=true/\inI m.q 0 1099511627776=true/\inI m.a 0 1099511627776=false/\b=false)\/
 (inI m.f 0 7=true/\inI m.t 0 7=true/\(m.f==m.t)=false/\decide (m.i<1)=false/\inI m.i 0 1099511627776=true/\inI m.p 0 1099511627776=true/\inI m.q 0 1099511627776=true/\inI m.a 0 1099511627776=true/\(b=true↔Tail m)):=by
 have no:¬Head m->b=false:=fun h=>by rw [<-Bool.not_eq_true,hb];exact fun h2=>h h2.1
 rcases h1:inI m.f 0 7 with _ | _
 · exact .inl ⟨rfl,no fun h=>zam h1 ⟨h.f0,h.f1⟩⟩
 rcases h2:inI m.t 0 7 with _ | _
 · exact .inr (.inl ⟨rfl,rfl,no fun h=>zam h2 ⟨h.t0,h.t1⟩⟩)
 rcases h3:(m.f==m.t) with _ | _
 rotate_left
 · exact .inr (.inr (.inl ⟨rfl,rfl,rfl,no fun h=>h.ne (by simpa using h3)⟩))
 by_cases h8:m.i<1
 · exact .inr (.inr (.inr (.inl ⟨rfl,rfl,rfl,by simpa using h8,no fun h=>by have:=h.i0;omega⟩)))
 have h9:decide (m.i<1)=false:=by simpa using h8
 rcases h4:inI m.i 0 1099511627776 with _ | _
 · exact .inr (.inr (.inr (.inr (.inl ⟨rfl,rfl,rfl,h9,rfl,no fun h=>zam h4 ⟨by have:=h.i0;omega,h.i1⟩⟩))))
 rcases h5:inI m.p 0 1099511627776 with _ | _
 · exact .inr (.inr (.inr (.inr (.inr (.inl ⟨rfl,rfl,rfl,h9,rfl,rfl,no fun h=>zam h5 ⟨h.p0,h.p1⟩⟩)))))
 rcases h6:inI m.q 0 1099511627776 with _ | _
 · exact .inr (.inr (.inr (.inr (.inr (.inr (.inl ⟨rfl,rfl,rfl,h9,rfl,rfl,rfl,no fun h=>zam h6 ⟨h.q0,h.q1⟩⟩))))))
 rcases h7:inI m.a 0 1099511627776 with _ | _
 · exact .inr (.inr (.inr (.inr (.inr (.inr (.inr (.inl ⟨rfl,rfl,rfl,h9,rfl,rfl,rfl,rfl,no fun h=>zam h7 ⟨h.a0,h.a1⟩⟩)))))))
 refine .inr (.inr (.inr (.inr (.inr (.inr (.inr (.inr ⟨rfl,rfl,rfl,h9,rfl,rfl,rfl,rfl,?_⟩)))))));have a1:=zak h1;have a2:=zak h2;have a4:=zak h4;have a5:=zak h5;have a6:=zak h6;have a7:=zak h7;have hh:Head m:=⟨a1.1,a1.2,a2.1,a2.2,by simpa using h3,by omega,a4.2,a5.1,a5.2,a6.1,a6.2,a7.1,a7.2⟩;exact hb.trans ⟨fun h=>h.2,fun h=>⟨hh,h⟩⟩
def fet (m:Ms):Ms:=⟨m.k,m.f,m.t,m.i,m.p,m.q,m.a,m.wd,0,m.wt,m.x,0,0,⟨#[]⟩,[]⟩
def bat (m:Ms):Ms:=⟨m.k,m.f,m.t,m.i,m.p,m.q,m.a,0,m.h,0,0,0,0,⟨#[]⟩,m.l⟩
def chu (m:Ms):Ms:=⟨m.k,m.f,m.t,m.i,m.p,m.q,m.a,0,0,0,m.x,m.z,m.s,m.d,[]⟩
theorem zfK {m:Ms}:fet m=m↔m.h=0/\m.z=0/\m.s=0/\m.d.size=0/\m.l=[]:=by
 obtain ⟨k,f,t,i,p,q,a,wd,h,wt,x,z,s,d,l⟩:=m;unfold fet;dsimp only
 constructor
 · intro e
   injection e with _ _ _ _ _ _ _ _ e1 _ _ e2 e3 e4 e5
   exact ⟨e1.symm,e2.symm,e3.symm,by rw [<-e4];rfl,e5.symm⟩
 · rintro ⟨rfl,rfl,rfl,h4,rfl⟩
   rw [zcZ h4]
theorem zfQ {m:Ms}:bat m=m↔m.wd=0/\m.wt=0/\m.x=0/\m.z=0/\m.s=0/\m.d.size=0:=by
 obtain ⟨k,f,t,i,p,q,a,wd,h,wt,x,z,s,d,l⟩:=m;unfold bat;dsimp only
 constructor
 · intro e
   injection e with _ _ _ _ _ _ _ e1 _ e2 e3 e4 e5 e6 _
   exact ⟨e1.symm,e2.symm,e3.symm,e4.symm,e5.symm,by rw [<-e6];rfl⟩
 · rintro ⟨rfl,rfl,rfl,rfl,rfl,h4⟩
   rw [zcZ h4]
theorem zfO {m:Ms}:chu m=m↔m.wd=0/\m.h=0/\m.wt=0/\m.l=[]:=by
 obtain ⟨k,f,t,i,p,q,a,wd,h,wt,x,z,s,d,l⟩:=m;unfold chu;dsimp only
 constructor
 · intro e
   injection e with _ _ _ _ _ _ _ e1 e2 e3 _ _ _ _ e4
   exact ⟨e1.symm,e2.symm,e3.symm,e4.symm⟩
 · rintro ⟨rfl,rfl,rfl,rfl⟩
   rfl
theorem zdZ (P:Prop):∃c:Bool,c=true↔P:=by
 by_cases h:P
 · exact ⟨true,fun _=>h,fun _=>rfl⟩
 · exact ⟨false,(fun h=>by cases h),fun hp=>absurd hp h⟩
theorem zdR (m:Ms) (b:Bool) (hk:m.k=1) (hb:b=true↔Tail m):
 ∃c:Bool,(c=true↔fet m=m)/\((c=false/\b=false)\/(c=true/\inI m.wd 0 65536=false/\b=false)\/(c=true/\inI m.wd 0 65536=true/\inI m.wt 0 1099511627776=false/\b=false)\/
  (c=true/\inI m.wd 0 65536=true/\inI m.wt 0 1099511627776=true/\inI m.x 0 65536=b)):=by
 rw [zd6 hk] at hb
 have no:¬Fetch m->b=false:=fun h=>by rw [<-Bool.not_eq_true,hb];exact h
 obtain ⟨c,hc⟩:=zdZ (fet m=m);refine ⟨c,hc,?_⟩
 rcases c with _ | _
 · exact .inl ⟨rfl,no fun h=>by have:=hc.2 (zfK.2 ⟨h.h,h.z,h.s,h.d,h.l⟩);cases this⟩
 obtain ⟨z1,z2,z3,z4,z5⟩:=zfK.1 (hc.1 rfl)
 rcases h1:inI m.wd 0 65536 with _ | _
 · exact .inr (.inl ⟨rfl,rfl,no fun h=>zam h1 ⟨h.wd0,h.wd1⟩⟩)
 rcases h2:inI m.wt 0 1099511627776 with _ | _
 · exact .inr (.inr (.inl ⟨rfl,rfl,rfl,no fun h=>zam h2 ⟨h.wt0,h.wt1⟩⟩))
 refine .inr (.inr (.inr ⟨rfl,rfl,rfl,?_⟩))
 rcases h3:inI m.x 0 65536 with _ | _
 · exact (no fun h=>zam h3 ⟨h.x0,h.x1⟩).symm
 · have a1:=zak h1
   have a2:=zak h2
   have a3:=zak h3;exact (hb.2 ⟨hk,a1.1,a1.2,a2.1,a2.2,a3.1,a3.2,z1,z2,z3,z4,z5⟩).symm
theorem zdT (m:Ms) (b:Bool) (hk:m.k=2) (hb:b=true↔Tail m):
 ∃c:Bool,(c=true↔bat m=m)/\((c=false/\b=false)\/(c=true/\inI m.h 0 1099511627776=false/\b=false)\/(c=true/\inI m.h 0 1099511627776=true/\64<m.l.length/\b=false)\/
  (c=true/\inI m.h 0 1099511627776=true/\m.l.length<=64/\(b=true↔zd3 m.a m.l m.l.length))):=by
 rw [zd5 hk] at hb
 have no:¬Batch m->b=false:=fun h=>by rw [<-Bool.not_eq_true,hb];exact h
 obtain ⟨c,hc⟩:=zdZ (bat m=m);refine ⟨c,hc,?_⟩
 rcases c with _ | _
 · exact .inl ⟨rfl,no fun h=>by have:=hc.2 (zfQ.2 ⟨h.wd,h.wt,h.x,h.z,h.s,h.d⟩);cases this⟩
 obtain ⟨z1,z2,z3,z4,z5,z6⟩:=zfQ.1 (hc.1 rfl)
 rcases h1:inI m.h 0 1099511627776 with _ | _
 · exact .inr (.inl ⟨rfl,rfl,no fun h=>zam h1 ⟨h.h0,h.h1⟩⟩)
 by_cases h2:64<m.l.length
 · exact .inr (.inr (.inl ⟨rfl,rfl,h2,no fun h=>by have:=h.l.1;omega⟩))
 · refine .inr (.inr (.inr ⟨rfl,rfl,by omega,hb.trans ⟨fun h=>h.l.2,fun h=>?_⟩⟩))
   have a1:=zak h1
   exact ⟨hk,a1.1,a1.2,⟨by omega,h⟩,z1,z2,z3,z4,z5,z6⟩
theorem zdS (m:Ms) (b:Bool) (hk:m.k=3) (hs:0<=m.s/\m.s<4294967296) (hb:b=true↔Tail m):
 ∃c:Bool,(c=true↔chu m=m)/\((c=false/\b=false)\/(c=true/\decide (1<=m.z)=false/\b=false)\/(c=true/\decide (1<=m.z)=true/\inI m.z 0 65536=false/\b=false)\/
  (c=true/\decide (1<=m.z)=true/\inI m.z 0 65536=true/\inI m.x 0 m.z=false/\b=false)\/(c=true/\decide (1<=m.z)=true/\inI m.z 0 65536=true/\inI m.x 0 m.z=true/\decide ((m.d.size:Int)<=4096)=b)):=by
 rw [zcA hk] at hb
 have no:¬Chunk m->b=false:=fun h=>by rw [<-Bool.not_eq_true,hb];exact h
 obtain ⟨c,hc⟩:=zdZ (chu m=m);refine ⟨c,hc,?_⟩
 rcases c with _ | _
 · exact .inl ⟨rfl,no fun h=>by have:=hc.2 (zfO.2 ⟨h.wd,h.h,h.wt,h.l⟩);cases this⟩
 obtain ⟨z1,z2,z3,z4⟩:=zfO.1 (hc.1 rfl)
 by_cases h1:1<=m.z
 rotate_left
 · exact .inr (.inl ⟨rfl,by simpa using h1,no fun h=>h1 h.z0⟩)
 have h5:decide (1<=m.z)=true:=by simpa using h1
 rcases h2:inI m.z 0 65536 with _ | _
 · exact .inr (.inr (.inl ⟨rfl,h5,rfl,no fun h=>zam h2 ⟨by have:=h.z0;omega,h.z1⟩⟩))
 rcases h3:inI m.x 0 m.z with _ | _
 · exact .inr (.inr (.inr (.inl ⟨rfl,h5,rfl,rfl,no fun h=>zam h3 ⟨h.x0,h.x1⟩⟩)))
 refine .inr (.inr (.inr (.inr ⟨rfl,h5,rfl,rfl,?_⟩)));have a2:=zak h2;have a3:=zak h3
 by_cases h4:(m.d.size:Int)<=4096
 · rw [hb.2 ⟨hk,h1,a2.2,a3.1,a3.2,by omega,hs.1,hs.2,z1,z2,z3,z4⟩]
   simpa using h4
 · rw [no fun h=>h4 (by have:=h.d;omega)]
   simpa using h4
end Wr
end Go.Proofs.Ytmkdcpjlhphhiaa

/-
  Parts of what the laws of this seat stand on:FoldRstep,FoldPair.
-/
import Derived.Test.YtgmppfpllogdcaaGreatBi1
import Derived.RegionTactic
import Derived.Test.YtgmppfpllogdcaaGreatBi15
import Derived.Test.YtgmppfpllogdcaaGreatBi30
import Derived.Test.YtgmppfpllogdcaaGreatBi31
set_option maxRecDepth 100000
set_option maxHeartbeats 6400000
namespace Go.Proofs.YtgmppfpllogdcaaGreat
section
open Go.RowKit
theorem zbS {P:Program} {ops:Array Oper} {o:Oper} {a:Act} {w:World} {K:Act->World->Prop} {Q:Exit->Act->World->Prop} {E:Prop}
 (hg:o.guard=none) (s x:Operand) (t:TypeId) (hop:o.op=Op.call {callee:=Callee.builtin Builtin.append,args:= #[s,x],argTypes:= #[t,t]})
 (base:Nat) (e:TypeId) (i:TypeInfo) (z:Value) (size bytes:Nat) (ht:P.underlying t=some (.slice e)) (hi:P.info? e=some i) (hz:i.zero=some z)
 (hsize:i.size=size) (hby:i.bytes=bytes) (hzs:z.cells.size=size) (hsz:0<size)
 (v:Value) (n:Nat) (xs:List Value) (hs:a.eval s=v) (hown:w.ownsRow base e size v n xs)
 (ad:Addr) (m c:Nat) (news:List Value) (hx:a.eval x= .slice (some ad) m c) (hl:news.length=m*size) (hnews:∀j u,news[j]?=some u->w.cell? (ad.add j)=some u) (h1:∀u∈news,u.oneCell'=true)
 (h63:n+m<=maxLen) (hbytes:(n+m)*bytes<=140737488355328) (hbase:base<=w.heap.size)
 (hK:∀v' w',w'.ownsRow base e size v' (n+m) (xs++news)->w.grownBy w' v.ownBlock->K (a.put o.dst v') w'):
 if Region.wanted o (yielded ops a.tmps)=true then Oper.wp P o a w K Q else E:=by
 have hw:Region.wanted o (yielded ops a.tmps)=true:=by simp [Region.wanted,hg]
 rw [if_pos hw];exact wp_append_own w s x t hop base e i z size bytes ht hi hz hsize hby hzs hsz v n xs hs hown ad m c news hx hl hnews h1 h63 hbytes hbase fun v' w' h2 h3 _=>hK v' w' h2 h3
theorem za4 {w:World} {base:Nat} {v:Value} {l:List Fp.Pr} {p:Fp.Pr} (h:w.ownsRow base 86 2 v (l.length+1) (zbg l++[.int .u8 (p.k.toNat:Int),.string p.v])):Own w base v (l++[p]):=by
 unfold Own;rw [zhO,List.length_append];exact h
theorem zdR (w:World) (x y:Value) (T:TypeId):∀(j:Nat) (u:Value),[x,y][j]?=some u->(w.alloc (.cells #[x,y] T)).cell? ((⟨w.heap.size,0,none⟩:Addr).add j)=some u:=by
 intro j u h;rw [zak,zcZ (heap_alloc_new w (.cells #[x,y] T))]
 simpa using h
theorem zb1 {l:List Fp.Pr} {k:Nat} (h:k<l.length):l.take (k+1)=l.take k++[l.getD k Fp.zero]:=by rw [List.take_succ_eq_append_getElem h,zbK h]
theorem zeQ (x:Addr) (cap:Nat) (l:List Fp.Pr) (s:ByteArray) (w:World) (hs:s.size=0) (hl:l.length<=1000000000000) (hc:∀j u,(zbg l)[j]?=some u->w.cell? (x.add j)=some u):
 Calls Tryz.prog 17 #[.slice (some x) l.length cap,.string s] w (zbo w w.heap.size l):=by
 obtain ⟨i0,hi0,hz0,hz1,hz2⟩:=info_parts zdG;have hE:=zlu hs;have HC:Hid (∀j u,(zbg l)[j]?=some u->(w.alloc (.cells #[] 86)).cell? (x.add j)=some u):=fun j u hj=>Lib.cell?_alloc_some _ (hc j u hj);have H1:=zid (zjy l);have HL:=zid (zeW l)
 have HF:Hid (∀v' w3,w3.ownsRow w.heap.size 86 2 v' (0+l.length) ([]++zbg l)->(w.alloc (.cells #[] 86)).grownBy w3 (some w.heap.size)->zbo w w.heap.size l (.returned v') w3):=by
  intro v' w3 h hg;rw [Nat.zero_add,List.nil_append] at h
  exact zbo.mk h (((Below.refl _ w).alloc (Nat.le_refl _) _).grown hg (by simp) (fun k hk=>by injection hk with hk;omega))
 have hown:=zid (World.ownsRow_made (e:=86) (size:=2) w #[] 0 (Nat.le_refl _) (Nat.zero_le _) (by simp));clear hc hs;generalize zbg l=xs at*;generalize l.length=len at*
 go_enter Tryz.func17,Tryz.ntmps17
 go_wp2_with (at_builtin;refine wpList_append_own _ rfl _ _ 42 rfl w.heap.size 86 i0 (.agg #[.int .u8 0,.string ByteArray.empty]) 2 24 Tryz.underlying42 hi0 hz0 hz1 hz2 rfl (by decide) _ _ _ rfl hown.out x len cap xs rfl HL.out HC.out H1.out (by unfold maxLen;omega) (by omega) (by simp) ?_;intro v' w3 hown' hgrow3 hnil3)
 go_ret;exact HF.out v' w3 hown' hgrow3
theorem zjg (cap:Nat) (s:ByteArray) (w:World) (hs:s.size=0):
 Calls Tryz.prog 17 #[.slice none 0 cap,.string s] w (zbo w w.heap.size []):=by
 have hE:=zlu hs;have HF:=zid (zbo.mk (l:=[]) (World.ownsRow_made (e:=86) (size:=2) w #[] 0 (Nat.le_refl _) (Nat.zero_le _) (by simp)) ((Below.refl _ w).alloc (Nat.le_refl _) _));clear hs
 go_enter Tryz.func17,Tryz.ntmps17
 go_wp2_with fail;go_ret;exact HF.out
structure Out (w:World) (L T:List Fp.Pr) (m:Nat) (v:Value) (wr:World):Prop where
 own:Own wr w.heap.size v L
 is:L=T
 len:L.length<=m
 bel:Below w.heap.size w wr
theorem zlm {c:UInt8} {l:List Fp.Pr} {k:Nat} (h:k<l.length) (h1:c.toNat<(l.getD k Fp.zero).k.toNat):Fp.hi c (l.take (k+1))=Fp.hi c (l.take k)++[l.getD k Fp.zero]:=by
 rw [zb1 h];unfold Fp.hi;rw [List.filter_append,List.filter_cons_of_pos (by simpa using h1)]
 rfl
theorem ze7 {c:UInt8} {l:List Fp.Pr} {k:Nat} (h:k<l.length) (h1:¬c.toNat<(l.getD k Fp.zero).k.toNat):Fp.hi c (l.take (k+1))=Fp.hi c (l.take k):=by
 rw [zb1 h];unfold Fp.hi;rw [List.filter_append,List.filter_cons_of_neg (by simpa using h1)]
 simp
theorem zk8 {c:UInt8} {l:List Fp.Pr} {k:Nat} (hu:Fp.Up l) (hlt:∀i,i<k->(l.getD i Fp.zero).k.toNat<c.toNat) (h:l.length<=k\/c.toNat<=(l.getD k Fp.zero).k.toNat):Fp.lo c l=l.take k:=by
 refine Fp.lo_at c k (fun j hj hjk=>by rw [<-zbK hj];exact hlt j hjk) (fun j hj hkj=>?_)
 rcases h with h | h
 · omega
 · rw [zbK (by omega)] at h
   rcases Nat.lt_or_ge k j with h2 | h2
   · have:=hu.at hj h2;omega
   · obtain rfl:j=k:=by omega
     exact h
theorem zko (l:List Fp.Pr) (b off cap:Nat) (s:ByteArray) (w:World) (hu:Fp.Up l) (hs:s.size=1)
 (hc:∀i,i<l.length->w.cell? ⟨b,off+i*2,none⟩=some (.int .u8 ((l.getD i Fp.zero).k.toNat:Int))/\w.cell? ⟨b,off+i*2+1,none⟩=some (.string (l.getD i Fp.zero).v)):
 Calls Tryz.prog 17 #[.slice (some ⟨b,off,none⟩) l.length cap,.string s] w (zbo w w.heap.size (Fp.step l s)):=by
 obtain ⟨i0,hi0,hz0,hz1,hz2⟩:=info_parts zdG;have hl:=hu.len
 have h0:0<s.size:=by omega
 have hE:=ziO h0;have K:=zlc s h0;have HF:=zid (show Fp.step l s=Fp.lo s[0] l++Fp.hi s[0] (l.take l.length) by unfold Fp.step Fp.mid;rw [if_neg (by omega),if_pos hs,K,List.append_nil,List.take_length]);have HC:=zid hc;have HU:=zid hu
 have hg8:decide ((1:Int)<(s.size:Int))=false:=by simp;omega
 have hg9:decide (1<s.size)=false:=by simp;omega
 have HTS:=zid fun (k:Nat) (h:k<l.length)=>zb1 h;have HTH:=zid fun (k:Nat) (h:k<l.length)=> @zlm s[0] l k h;have HTN:=zid fun (k:Nat) (h:k<l.length)=> @ze7 s[0] l k h;have HST:=zid fun k=> @zk8 s[0] l k hu;clear hc hu hs K;generalize Fp.step l s=R at*;obtain ⟨len,hlen⟩:∃len,l.length=len:=⟨_,rfl⟩;rw [hlen] at HC hl HF HST HTS HTH HTN ⊢;clear hlen
 go_enter Tryz.func17,Tryz.ntmps17
 go_wp2_with fail
 go_loopw [5,6] (fun v i wr=>∃(k:Nat) (L:List Fp.Pr),k<=len/\i= .int .i64 k/\Out w L (l.take k) k v wr/\∀j,j<k->(l.getD j Fp.zero).k.toNat<s[0].toNat) (fun _ i _=>len-(intOf i).toNat)
 case atStart=>exact ⟨0,[],Nat.zero_le _,rfl,⟨Own.nil _ _,by simp,Nat.le_refl _,Below.refl _ _⟩,fun j hj=>by omega⟩
 case round=>
  obtain ⟨k,L,hk,rfl,ho,hlo⟩:=hrel;have HO:=zid ho;have HLO:=zid hlo;have hLl:=ho.len;have HSZ:=zid ho.bel.size;clear ho hlo
  by_cases hgo:k<len/\(l.getD k Fp.zero).k.toNat<s[0].toNat
  · obtain ⟨hlt,hkey⟩:=hgo
    obtain ⟨c0,c1⟩:=HC.out k hlt
    have hbb:=block_lt_of_cell c0
    have z0:wr.cell? ⟨b,off+k*2,none⟩=some (.int .u8 ((l.getD k Fp.zero).k.toNat:Int)):=by rw [HO.out.bel.cell (p:=⟨b,off+k*2,none⟩) hbb];exact c0
    have z1:wr.cell? ⟨b,off+k*2+1,none⟩=some (.string (l.getD k Fp.zero).v):=by rw [HO.out.bel.cell (p:=⟨b,off+k*2+1,none⟩) hbb];exact c1
    clear c0 c1;have HT:=zid (HTS.out k hlt)
    have HLO2:Hid (∀j,j<k+1->(l.getD j Fp.zero).k.toNat<s[0].toNat):=by
     intro j hj
     rcases Nat.lt_or_ge j k with h | h
     · exact HLO.out j h
     · obtain rfl:j=k:=by omega
       exact hkey
    generalize l.getD k Fp.zero=p at*;have hd:decide (p.k.toNat<s[0].toNat)=true:=decide_eq_true hkey;clear hkey;go_wp2_with fail
    go_quiet (fail)
    have B0:=zid (HO.out.bel.trans ((zae (w:=wr) nq).mono HSZ.out));have O0:=zid (HO.out.own.below (zae nq))
    have y0:(wr.drewN nq).cell? ⟨b,off+k*2,none⟩=some (.int .u8 (p.k.toNat:Int)):=by rw [(zae (w:=wr) nq).cell (p:=⟨b,off+k*2,none⟩) (Nat.lt_of_lt_of_le hbb HSZ.out)];exact z0
    have y1:(wr.drewN nq).cell? ⟨b,off+k*2+1,none⟩=some (.string p.v):=by rw [(zae (w:=wr) nq).cell (p:=⟨b,off+k*2+1,none⟩) (Nat.lt_of_lt_of_le hbb HSZ.out)];exact z1
    have S0:=zid B0.out.size;generalize wr.drewN nq=w0 at B0 O0 y0 y1 S0 ⊢
    go_wp2_with (at_builtin;refine wpList_append_own _ rfl _ _ 42 rfl w.heap.size 86 i0 (.agg #[.int .u8 0,.string ByteArray.empty]) 2 24 Tryz.underlying42 hi0 hz0 hz1 hz2 rfl (by decide) _ _ _ rfl (World.ownsRow.alloc O0.out _) ⟨w0.heap.size,0,none⟩ 1 1 [.int .u8 (p.k.toNat:Int),.string p.v] rfl rfl (zdR _ _ _ _) (by simp [Value.oneCell']) (by unfold maxLen;omega) (by omega) (by simp;have:=S0.out;omega) ?_;intro v' w3 hown' hgrow3 hnil3)
    go_roundw
    case rel=>
     refine ⟨k+1,L++[p],by omega,by go_num,⟨za4 hown',by rw [HT.out,HO.out.is],by rw [List.length_append];have:=HO.out.len;simp;omega,?_⟩,HLO2.out⟩;exact (B0.out.alloc S0.out _).grown hgrow3 (by simp;have:=S0.out;omega) (fun q hq=>(World.ownsRow.lt O0.out q hq).1)
    case measure=>simp [intOf];omega
  · have HL:=zid (HST.out k HLO.out (by omega))
    have HOP:Hid (∀v,Out w L (l.take k) k v wr->Out w L (Fp.lo s[0] l) 256 v wr):=fun v h=>⟨h.own,by rw [HL.out];exact h.is,by have:=h.len;omega,h.bel⟩
    have HO2:=zid (HOP.out _ HO.out);clear HOP
    have hcond:(k<len/\s[0].toNat<=(l.getD k Fp.zero).k.toNat)\/ ¬k<len:=by omega
    have hex:∃(d:Bool) (y:Nat),(k<len/\d=false/\decide (y<s[0].toNat)=d/\wr.cell? ⟨b,off+k*2,none⟩=some (.int .u8 (y:Int)))\/ ¬k<len:=by
     rcases hcond with ⟨h1,h2⟩ | h1
     · obtain ⟨c0,_⟩:=HC.out k h1
       refine ⟨false,(l.getD k Fp.zero).k.toNat,.inl ⟨h1,rfl,decide_eq_false (by omega),?_⟩⟩
       rw [HO.out.bel.cell (p:=⟨b,off+k*2,none⟩) (block_lt_of_cell c0)];exact c0
     · exact ⟨false,0,.inr h1⟩
    clear hcond hgo;obtain ⟨d,y,⟨hlt,rfl,hd,z0⟩ | hlt⟩:=hex
    all_goals
     go_wp2_with fail
     go_quiet (fail)
     have HO3:Hid (∀v,Out w L (Fp.lo s[0] l) 256 v wr->Out w L (Fp.lo s[0] l) 256 v (wr.drewN nq)):=fun v h=>⟨h.own.below (zae nq),h.is,h.len,h.bel.trans ((zae nq).mono HSZ.out)⟩;have HO4:=zid (HO3.out _ HO2.out);clear HO3;generalize wr.drewN nq=w0 at HO4 ⊢;go_wp2_with fail
     go_loopw [5,7] (fun v i wr=>∃(m:Nat) (M:List Fp.Pr),m<=len/\i= .int .i64 m/\Out w M (Fp.lo s[0] l++Fp.hi s[0] (l.take m)) (256+m) v wr) (fun _ i _=>len-(intOf i).toNat)
     case atStart=>exact ⟨0,_,Nat.zero_le _,rfl,⟨HO4.out.own,by rw [HO4.out.is];simp [Fp.hi],HO4.out.len,HO4.out.bel⟩⟩
     case round=>
      obtain ⟨m,M,hm,rfl,ho⟩:=hrel;have HM:=zid ho;have hMl:=ho.len;have HSZ2:=zid ho.bel.size;clear ho
      by_cases hltm:m<len
      · obtain ⟨c0,c1⟩:=HC.out m hltm
        have hbb:=block_lt_of_cell c0
        have x0:wr.cell? ⟨b,off+m*2,none⟩=some (.int .u8 ((l.getD m Fp.zero).k.toNat:Int)):=by rw [HM.out.bel.cell (p:=⟨b,off+m*2,none⟩) hbb];exact c0
        have x1:wr.cell? ⟨b,off+m*2+1,none⟩=some (.string (l.getD m Fp.zero).v):=by rw [HM.out.bel.cell (p:=⟨b,off+m*2+1,none⟩) hbb];exact c1
        clear c0 c1;have HH:=zid (HTH.out m hltm);have HN:=zid (HTN.out m hltm);generalize l.getD m Fp.zero=p at*
        by_cases hkey:s[0].toNat<p.k.toNat
        · have HH2:=zid (HH.out hkey)
          have hd2:decide (s[0].toNat<p.k.toNat)=true:=decide_eq_true hkey
          clear hkey;go_wp2_with fail
          go_quiet (fail)
          have B0:=zid (HM.out.bel.trans ((zae (w:=wr) nq).mono HSZ2.out));have O0:=zid (HM.out.own.below (zae nq))
          have y0:(wr.drewN nq).cell? ⟨b,off+m*2,none⟩=some (.int .u8 (p.k.toNat:Int)):=by rw [(zae (w:=wr) nq).cell (p:=⟨b,off+m*2,none⟩) (Nat.lt_of_lt_of_le hbb HSZ2.out)];exact x0
          have y1:(wr.drewN nq).cell? ⟨b,off+m*2+1,none⟩=some (.string p.v):=by rw [(zae (w:=wr) nq).cell (p:=⟨b,off+m*2+1,none⟩) (Nat.lt_of_lt_of_le hbb HSZ2.out)];exact x1
          have S0:=zid B0.out.size;generalize wr.drewN nq=w2 at B0 O0 y0 y1 S0 ⊢
          go_wp2_with (at_builtin;refine wpList_append_own _ rfl _ _ 42 rfl w.heap.size 86 i0 (.agg #[.int .u8 0,.string ByteArray.empty]) 2 24 Tryz.underlying42 hi0 hz0 hz1 hz2 rfl (by decide) _ _ _ rfl (World.ownsRow.alloc O0.out _) ⟨w2.heap.size,0,none⟩ 1 1 [.int .u8 (p.k.toNat:Int),.string p.v] rfl rfl (zdR _ _ _ _) (by simp [Value.oneCell']) (by unfold maxLen;omega) (by omega) (by simp;have:=S0.out;omega) ?_;intro v' w3 hown' hgrow3 hnil3)
          go_roundw
          case rel=>
           refine ⟨m+1,M++[p],by omega,by go_num,⟨za4 hown',by rw [HH2.out,HM.out.is,List.append_assoc],by rw [List.length_append];have:=HM.out.len;simp;omega,?_⟩⟩;exact (B0.out.alloc S0.out _).grown hgrow3 (by simp;have:=S0.out;omega) (fun q hq=>(World.ownsRow.lt O0.out q hq).1)
          case measure=>simp [intOf];omega
        · have HN2:=zid (HN.out hkey)
          have hd2:decide (s[0].toNat<p.k.toNat)=false:=decide_eq_false hkey
          clear hkey;go_wp2_with fail
          go_quiet (fail)
          go_wp2_with fail
          go_roundw
          case rel=>exact ⟨m+1,M,by omega,by go_num,⟨HM.out.own.below (zae nq),by rw [HN2.out];exact HM.out.is,by have:=HM.out.len;omega,HM.out.bel.trans ((zae nq).mono HSZ2.out)⟩⟩
          case measure=>simp [intOf];omega
      · obtain rfl:m=len:=by omega
        have HG:Hid (∀v,Out w M (Fp.lo s[0] l++Fp.hi s[0] (l.take m)) (256+m) v wr->zbo w w.heap.size R (.returned v) wr):=fun v h=>by rw [HF.out, <-h.is];exact zbo.mk h.own h.bel
        go_wp2_with fail;go_ret;exact HG.out _ HM.out
theorem zjh (l:List Fp.Pr) (b off cap:Nat) (s:ByteArray) (w:World) (hu:Fp.Up l) (hs:1<s.size)
 (hc:∀i,i<l.length->w.cell? ⟨b,off+i*2,none⟩=some (.int .u8 ((l.getD i Fp.zero).k.toNat:Int))/\w.cell? ⟨b,off+i*2+1,none⟩=some (.string (l.getD i Fp.zero).v)):
 Calls Tryz.prog 17 #[.slice (some ⟨b,off,none⟩) l.length cap,.string s] w (zbo w w.heap.size (Fp.step l s)):=by
 obtain ⟨i0,hi0,hz0,hz1,hz2⟩:=info_parts zdG;have hl:=hu.len
 have h0:0<s.size:=by omega
 have hE:=ziO h0;have K:=zlc s h0;have HF:=zid (show Fp.step l s=Fp.lo s[0] l++[⟨s[0],s.extract 1 s.size⟩]++Fp.hi s[0] (l.take l.length) by unfold Fp.step Fp.mid Fp.val;rw [if_neg (by omega),if_neg (by omega),K,List.take_length]);have HC:=zid hc;have HU:=zid hu
 have hg8:decide ((1:Int)<(s.size:Int))=true:=by simp;omega
 have hg9:decide (1<s.size)=true:=by simp;omega
 have hs1:(1:Int)<=(s.size:Int):=by omega
 have mixed:=zfD;have HTS:=zid fun (k:Nat) (h:k<l.length)=>zb1 h;have HTH:=zid fun (k:Nat) (h:k<l.length)=> @zlm s[0] l k h;have HTN:=zid fun (k:Nat) (h:k<l.length)=> @ze7 s[0] l k h;have HST:=zid fun k=> @zk8 s[0] l k hu;clear hc hu hs K;generalize Fp.step l s=R at*;obtain ⟨len,hlen⟩:∃len,l.length=len:=⟨_,rfl⟩;rw [hlen] at HC hl HF HST HTS HTH HTN ⊢;clear hlen
 go_enter Tryz.func17,Tryz.ntmps17
 go_wp2_with fail
 go_loopw [5,6] (fun v i wr=>∃(k:Nat) (L:List Fp.Pr),k<=len/\i= .int .i64 k/\Out w L (l.take k) k v wr/\∀j,j<k->(l.getD j Fp.zero).k.toNat<s[0].toNat) (fun _ i _=>len-(intOf i).toNat)
 case atStart=>exact ⟨0,[],Nat.zero_le _,rfl,⟨Own.nil _ _,by simp,Nat.le_refl _,Below.refl _ _⟩,fun j hj=>by omega⟩
 case round=>
  obtain ⟨k,L,hk,rfl,ho,hlo⟩:=hrel;have HO:=zid ho;have HLO:=zid hlo;have hLl:=ho.len;have HSZ:=zid ho.bel.size;clear ho hlo
  by_cases hgo:k<len/\(l.getD k Fp.zero).k.toNat<s[0].toNat
  · obtain ⟨hlt,hkey⟩:=hgo
    obtain ⟨c0,c1⟩:=HC.out k hlt
    have hbb:=block_lt_of_cell c0
    have z0:wr.cell? ⟨b,off+k*2,none⟩=some (.int .u8 ((l.getD k Fp.zero).k.toNat:Int)):=by rw [HO.out.bel.cell (p:=⟨b,off+k*2,none⟩) hbb];exact c0
    have z1:wr.cell? ⟨b,off+k*2+1,none⟩=some (.string (l.getD k Fp.zero).v):=by rw [HO.out.bel.cell (p:=⟨b,off+k*2+1,none⟩) hbb];exact c1
    clear c0 c1;have HT:=zid (HTS.out k hlt)
    have HLO2:Hid (∀j,j<k+1->(l.getD j Fp.zero).k.toNat<s[0].toNat):=by
     intro j hj
     rcases Nat.lt_or_ge j k with h | h
     · exact HLO.out j h
     · obtain rfl:j=k:=by omega
       exact hkey
    generalize l.getD k Fp.zero=p at*;have hd:decide (p.k.toNat<s[0].toNat)=true:=decide_eq_true hkey;clear hkey;go_wp2_with fail
    go_quiet (fail)
    have B0:=zid (HO.out.bel.trans ((zae (w:=wr) nq).mono HSZ.out));have O0:=zid (HO.out.own.below (zae nq))
    have y0:(wr.drewN nq).cell? ⟨b,off+k*2,none⟩=some (.int .u8 (p.k.toNat:Int)):=by rw [(zae (w:=wr) nq).cell (p:=⟨b,off+k*2,none⟩) (Nat.lt_of_lt_of_le hbb HSZ.out)];exact z0
    have y1:(wr.drewN nq).cell? ⟨b,off+k*2+1,none⟩=some (.string p.v):=by rw [(zae (w:=wr) nq).cell (p:=⟨b,off+k*2+1,none⟩) (Nat.lt_of_lt_of_le hbb HSZ.out)];exact z1
    have S0:=zid B0.out.size;generalize wr.drewN nq=w0 at B0 O0 y0 y1 S0 ⊢
    go_wp2_with (at_builtin;refine wpList_append_own _ rfl _ _ 42 rfl w.heap.size 86 i0 (.agg #[.int .u8 0,.string ByteArray.empty]) 2 24 Tryz.underlying42 hi0 hz0 hz1 hz2 rfl (by decide) _ _ _ rfl (World.ownsRow.alloc O0.out _) ⟨w0.heap.size,0,none⟩ 1 1 [.int .u8 (p.k.toNat:Int),.string p.v] rfl rfl (zdR _ _ _ _) (by simp [Value.oneCell']) (by unfold maxLen;omega) (by omega) (by simp;have:=S0.out;omega) ?_;intro v' w3 hown' hgrow3 hnil3)
    go_roundw
    case rel=>
     refine ⟨k+1,L++[p],by omega,by go_num,⟨za4 hown',by rw [HT.out,HO.out.is],by rw [List.length_append];have:=HO.out.len;simp;omega,?_⟩,HLO2.out⟩;exact (B0.out.alloc S0.out _).grown hgrow3 (by simp;have:=S0.out;omega) (fun q hq=>(World.ownsRow.lt O0.out q hq).1)
    case measure=>simp [intOf];omega
  · have HL:=zid (HST.out k HLO.out (by omega))
    have HOP:Hid (∀v,Out w L (l.take k) k v wr->Out w L (Fp.lo s[0] l) 256 v wr):=fun v h=>⟨h.own,by rw [HL.out];exact h.is,by have:=h.len;omega,h.bel⟩
    have HO2:=zid (HOP.out _ HO.out);clear HOP
    have hcond:(k<len/\s[0].toNat<=(l.getD k Fp.zero).k.toNat)\/ ¬k<len:=by omega
    have hex:∃(d:Bool) (y:Nat),(k<len/\d=false/\decide (y<s[0].toNat)=d/\wr.cell? ⟨b,off+k*2,none⟩=some (.int .u8 (y:Int)))\/ ¬k<len:=by
     rcases hcond with ⟨h1,h2⟩ | h1
     · obtain ⟨c0,_⟩:=HC.out k h1
       refine ⟨false,(l.getD k Fp.zero).k.toNat,.inl ⟨h1,rfl,decide_eq_false (by omega),?_⟩⟩
       rw [HO.out.bel.cell (p:=⟨b,off+k*2,none⟩) (block_lt_of_cell c0)];exact c0
     · exact ⟨false,0,.inr h1⟩
    clear hcond hgo;obtain ⟨d,y,⟨hlt,rfl,hd,z0⟩ | hlt⟩:=hex
    all_goals
     go_wp2_with fail
     go_quiet (fail)
     have HO3:Hid (∀v,Out w L (Fp.lo s[0] l) 256 v wr->Out w L (Fp.lo s[0] l) 256 v (wr.drewN nq)):=fun v h=>⟨h.own.below (zae nq),h.is,h.len,h.bel.trans ((zae nq).mono HSZ.out)⟩;have HO4:=zid (HO3.out _ HO2.out);clear HO3;have S4:=zid HO4.out.bel.size;generalize wr.drewN nq=w0 at HO4 S4 ⊢;go_wp2_with fail
     go_region_law_o (refine zbS rfl (.tmp 39) (.tmp 45) 42 rfl w.heap.size 86 i0 (.agg #[.int .u8 0,.string ByteArray.empty]) 2 24 Tryz.underlying42 hi0 hz0 hz1 hz2 rfl (by decide) _ _ _ (by simp [Act.eval]) (World.ownsRow.alloc (HO4.out.own.below (zae 1)) _) ⟨w0.heap.size,0,none⟩ 1 1 [.int .u8 (s[0].toNat:Int),.string (s.extract 1 s.size)] (by simp [Act.eval]) rfl (zdR w0.drew _ _ _) (by simp [Value.oneCell']) (by unfold maxLen;have:=HO4.out.len;omega) (by have:=HO4.out.len;omega) (by simp;have:=S4.out;omega) ?_;intro v' w3 hown' hgrow3)
     have HO5:Hid (Out w (L++[⟨s[0],s.extract 1 s.size⟩]) (Fp.lo s[0] l++[⟨s[0],s.extract 1 s.size⟩]) 257 v' w3):=⟨za4 hown',by rw [HO4.out.is],by rw [List.length_append];have:=HO4.out.len;simp;omega,((HO4.out.bel.drew).alloc S4.out _).grown hgrow3 (by simp;have:=S4.out;omega) (fun q hq=>(World.ownsRow.lt HO4.out.own q hq).1)⟩;have HO4:=HO5;clear hown' hgrow3;go_wp2_with fail
     go_loopw [5,7] (fun v i wr=>∃(m:Nat) (M:List Fp.Pr),m<=len/\i= .int .i64 m/\Out w M (Fp.lo s[0] l++[⟨s[0],s.extract 1 s.size⟩]++Fp.hi s[0] (l.take m)) (257+m) v wr) (fun _ i _=>len-(intOf i).toNat)
     case atStart=>exact ⟨0,_,Nat.zero_le _,rfl,⟨HO4.out.own,by rw [HO4.out.is];simp [Fp.hi],HO4.out.len,HO4.out.bel⟩⟩
     case round=>
      obtain ⟨m,M,hm,rfl,ho⟩:=hrel;have HM:=zid ho;have hMl:=ho.len;have HSZ2:=zid ho.bel.size;clear ho
      by_cases hltm:m<len
      · obtain ⟨c0,c1⟩:=HC.out m hltm
        have hbb:=block_lt_of_cell c0
        have x0:wr.cell? ⟨b,off+m*2,none⟩=some (.int .u8 ((l.getD m Fp.zero).k.toNat:Int)):=by rw [HM.out.bel.cell (p:=⟨b,off+m*2,none⟩) hbb];exact c0
        have x1:wr.cell? ⟨b,off+m*2+1,none⟩=some (.string (l.getD m Fp.zero).v):=by rw [HM.out.bel.cell (p:=⟨b,off+m*2+1,none⟩) hbb];exact c1
        clear c0 c1;have HH:=zid (HTH.out m hltm);have HN:=zid (HTN.out m hltm);generalize l.getD m Fp.zero=p at*
        by_cases hkey:s[0].toNat<p.k.toNat
        · have HH2:=zid (HH.out hkey)
          have hd2:decide (s[0].toNat<p.k.toNat)=true:=decide_eq_true hkey
          clear hkey;go_wp2_with fail
          go_quiet (fail)
          have B0:=zid (HM.out.bel.trans ((zae (w:=wr) nq).mono HSZ2.out));have O0:=zid (HM.out.own.below (zae nq))
          have y0:(wr.drewN nq).cell? ⟨b,off+m*2,none⟩=some (.int .u8 (p.k.toNat:Int)):=by rw [(zae (w:=wr) nq).cell (p:=⟨b,off+m*2,none⟩) (Nat.lt_of_lt_of_le hbb HSZ2.out)];exact x0
          have y1:(wr.drewN nq).cell? ⟨b,off+m*2+1,none⟩=some (.string p.v):=by rw [(zae (w:=wr) nq).cell (p:=⟨b,off+m*2+1,none⟩) (Nat.lt_of_lt_of_le hbb HSZ2.out)];exact x1
          have S0:=zid B0.out.size;generalize wr.drewN nq=w2 at B0 O0 y0 y1 S0 ⊢
          go_wp2_with (at_builtin;refine wpList_append_own _ rfl _ _ 42 rfl w.heap.size 86 i0 (.agg #[.int .u8 0,.string ByteArray.empty]) 2 24 Tryz.underlying42 hi0 hz0 hz1 hz2 rfl (by decide) _ _ _ rfl (World.ownsRow.alloc O0.out _) ⟨w2.heap.size,0,none⟩ 1 1 [.int .u8 (p.k.toNat:Int),.string p.v] rfl rfl (zdR _ _ _ _) (by simp [Value.oneCell']) (by unfold maxLen;omega) (by omega) (by simp;have:=S0.out;omega) ?_;intro v' w3 hown' hgrow3 hnil3)
          go_roundw
          case rel=>
           refine ⟨m+1,M++[p],by omega,by go_num,⟨za4 hown',by rw [HH2.out,HM.out.is,List.append_assoc],by rw [List.length_append];have:=HM.out.len;simp;omega,?_⟩⟩;exact (B0.out.alloc S0.out _).grown hgrow3 (by simp;have:=S0.out;omega) (fun q hq=>(World.ownsRow.lt O0.out q hq).1)
          case measure=>simp [intOf];omega
        · have HN2:=zid (HN.out hkey)
          have hd2:decide (s[0].toNat<p.k.toNat)=false:=decide_eq_false hkey
          clear hkey;go_wp2_with fail
          go_quiet (fail)
          go_wp2_with fail
          go_roundw
          case rel=>exact ⟨m+1,M,by omega,by go_num,⟨HM.out.own.below (zae nq),by rw [HN2.out];exact HM.out.is,by have:=HM.out.len;omega,HM.out.bel.trans ((zae nq).mono HSZ2.out)⟩⟩
          case measure=>simp [intOf];omega
      · obtain rfl:m=len:=by omega
        have HG:Hid (∀v,Out w M (Fp.lo s[0] l++[⟨s[0],s.extract 1 s.size⟩]++Fp.hi s[0] (l.take m)) (257+m) v wr->zbo w w.heap.size R (.returned v) wr):=fun v h=>by rw [HF.out, <-h.is];exact zbo.mk h.own h.bel
        go_wp2_with fail;go_ret;exact HG.out _ HM.out
theorem zjf (a:Option Addr) (cap:Nat) (s:ByteArray) (w:World) (hs:s.size=1):
 Calls Tryz.prog 17 #[.slice a 0 cap,.string s] w (zbo w w.heap.size (Fp.step [] s)):=by
 have h0:0<s.size:=by omega
 have hE:=ziO h0
 have hg8:decide ((1:Int)<(s.size:Int))=false:=by simp;omega
 have hg9:decide (1<s.size)=false:=by simp;omega
 have HF:Hid (∀wr,Below w.heap.size w wr->zbo w w.heap.size (Fp.step [] s) (.returned (.slice none 0 0)) wr):=by
  intro wr b;unfold Fp.step Fp.mid;rw [if_neg (by omega),if_pos hs];exact zbo.mk (l:=[]) (Own.nil _ _) b
 clear hs
 go_enter Tryz.func17,Tryz.ntmps17
 go_wp2_with fail;refine wp_loop_rounds 1 ?_;rw [rounds_succ];go_wp2_with fail
 go_quiet (fail)
 have HB:=zid (zae (w:=w) nq);generalize w.drewN nq=w0 at HB ⊢;go_wp2_with fail;refine wp_loop_rounds 1 ?_;rw [rounds_succ];go_wp2_with fail;go_ret;exact HF.out _ HB.out
theorem zje (a:Option Addr) (cap:Nat) (s:ByteArray) (w:World) (hs:1<s.size):
 Calls Tryz.prog 17 #[.slice a 0 cap,.string s] w (zbo w w.heap.size (Fp.step [] s)):=by
 obtain ⟨i0,hi0,hz0,hz1,hz2⟩:=info_parts zdG
 have h0:0<s.size:=by omega
 have hE:=ziO h0;have K:=zlc s h0
 have hg8:decide ((1:Int)<(s.size:Int))=true:=by simp;omega
 have hg9:decide (1<s.size)=true:=by simp;omega
 have hs1:(1:Int)<=(s.size:Int):=by omega
 have mixed:=zfD
 have HF:Hid (∀v wr,Own wr w.heap.size v ([]++[⟨s[0],s.extract 1 s.size⟩])->Below w.heap.size w wr->zbo w w.heap.size (Fp.step [] s) (.returned v) wr):=by
  intro v wr h b;unfold Fp.step Fp.mid Fp.val;rw [if_neg (by omega),if_neg (by omega),K];exact zbo.mk h b
 clear hs K
 go_enter Tryz.func17,Tryz.ntmps17
 go_wp2_with fail;refine wp_loop_rounds 1 ?_;rw [rounds_succ];go_wp2_with fail
 go_quiet (fail)
 have HB:=zid (zae (w:=w) nq);have HS:=zid HB.out.size;generalize w.drewN nq=w0 at HB HS ⊢;go_wp2_with fail
 go_region_law_o (refine zbS rfl (.tmp 39) (.tmp 45) 42 rfl w.heap.size 86 i0 (.agg #[.int .u8 0,.string ByteArray.empty]) 2 24 Tryz.underlying42 hi0 hz0 hz1 hz2 rfl (by decide) _ _ _ (by simp [Act.eval]) (World.ownsRow_nil _ _ _ _) ⟨w0.heap.size,0,none⟩ 1 1 [.int .u8 (s[0].toNat:Int),.string (s.extract 1 s.size)] (by simp [Act.eval]) rfl (zdR w0.drew _ _ _) (by simp [Value.oneCell']) (by unfold maxLen;omega) (by omega) (by simp;have:=HS.out;omega) ?_;intro v' w3 hown' hgrow3)
 have HG:=zid (HF.out v' w3 (za4 (l:=[]) (p:=⟨s[0],s.extract 1 s.size⟩) hown') (((HB.out.drew).alloc HS.out _).grown hgrow3 (by simp;have:=HS.out;omega) (fun q hq=>by cases hq)));clear hown' hgrow3;go_wp2_with fail;refine wp_loop_rounds 1 ?_;rw [rounds_succ];go_wp2_with fail;go_ret;exact HG.out
theorem zgh (v:Value) (l:List Fp.Pr) (s:ByteArray) (w:World) (h:zaY w v l) (hu:Fp.Up l):
 Calls Tryz.prog 17 #[v,.string s] w (zbo w w.heap.size (Fp.step l s)):=by
 have hl:=hu.len;obtain ⟨a,cap,rfl,_,_,h3⟩:=h
 by_cases h0:s.size=0
 · rw [Fp.step_zero l h0]
   rcases h3 with rfl | ⟨b,off,rfl,h4⟩
   · cases a with
     | none=>exact zjg cap s w h0
     | some x=>exact zeQ x cap [] s w h0 (by simp) (by simp [zbg])
   · exact zeQ ⟨b,off,none⟩ cap l s w h0 (by omega) (zkL h4)
 · by_cases h1:s.size=1
   · rcases h3 with rfl | ⟨b,off,rfl,h4⟩
     · exact zjf a cap s w h1
     · exact zko l b off cap s w hu h1 h4
   · rcases h3 with rfl | ⟨b,off,rfl,h4⟩
     · exact zje a cap s w (by omega)
     · exact zjh l b off cap s w hu (by omega) h4
def zcO (l:List UInt8) (k:Nat):Value:=
 match Fp.pairAt l with
 | none=> .tuple #[.agg #[.int .u8 0,.string ⟨#[]⟩],.int .i64 0,.bool false]
 | some (p,j)=> .tuple #[.agg #[.int .u8 (p.k.toNat:Int),.string p.v],.int .i64 ((k+j:Nat):Int),.bool true]
theorem zcN {l:List UInt8} (k:Nat) (h:Fp.pairAt l=none):zcO l k= .tuple #[.agg #[.int .u8 0,.string ⟨#[]⟩],.int .i64 0,.bool false]:=by unfold zcO;rw [h]
theorem zdQ {l:List UInt8} (k:Nat) {p:Fp.Pr} {j:Nat} (h:Fp.pairAt l=some (p,j)):zcO l k= .tuple #[.agg #[.int .u8 (p.k.toNat:Int),.string p.v],.int .i64 ((k+j:Nat):Int),.bool true]:=by unfold zcO;rw [h]
theorem zgB {s:ByteArray} {k:Nat} (h:Vp.take (s.data.toList.drop (k+1))=none):Fp.pairAt (s.data.toList.drop k)=none:=by
 rcases Nat.lt_or_ge k s.data.toList.length with h1 | h1
 · rw [List.drop_eq_getElem_cons h1,Fp.pairAt,h]
 · rw [List.drop_eq_nil_of_le h1,Fp.pairAt]
theorem zep {s:ByteArray} {k n j:Nat} (h:Vp.take (s.data.toList.drop (k+1))=some (n,j)) (hk:k<s.size):
 Fp.pairAt (s.data.toList.drop k)=if s.size<k+1+j+n then none else some (⟨s[k],s.extract (k+1+j) (k+1+j+n)⟩,1+j+n):=by
 have hk':k<s.data.toList.length:=hk;have hjl:=(Vp.take_some h).2.2.1;have e:s.data.toList.length=s.size:=rfl;rw [List.length_drop,e] at hjl;rw [List.drop_eq_getElem_cons hk',Fp.pairAt,h];simp only [List.length_drop,e];rw [mk_ext]
 by_cases h1:s.size<k+1+j+n
 · rw [if_pos h1,if_pos (by omega)]
 · rw [if_neg h1,if_neg (by omega)]
   rfl
theorem zfo {s:ByteArray} {k n j:Nat} (h:Vp.take (s.data.toList.drop (k+1))=some (n,j)):k<s.size/\k+1+j<=s.size/\n<9223372036854775808:=by
 have h1:=Vp.take_some h;have e:s.data.toList.length=s.size:=rfl;rw [List.length_drop,e] at h1;omega
theorem zdp (s:ByteArray) (i:Int) (w:World) (hs:s.size<=9223372036854775807):
 Calls Tryz.prog 90 #[.string s,.int .i64 i] w fun e w'=>e= .returned (rdAt s i)/\Below w.heap.size w w':=by
 refine (read_any s i w hs).mono ?_;rintro e w' ⟨he,n,rfl⟩;exact ⟨he,zae n⟩
theorem pair_no (s:ByteArray) (k:Nat) (w:World) (hs:s.size<=4611686018427387904) (hk:k<=s.size) (ht:Vp.take (s.data.toList.drop (k+1))=none):
 Calls Tryz.prog 91 #[.string s,.int .i64 (k:Int)] w fun e w'=>e= .returned (zcO (s.data.toList.drop k) k)/\Below w.heap.size w w':=by
 have C:=fun W:World=>zdp s ((k+1:Nat):Int) W (by omega);rw [zcj ht] at C;have C:∀W:World,Calls Tryz.prog 90 #[.string s,.int .i64 ((k:Int)+1)] W fun e w'=>e= .returned (.tuple #[.int .i64 0,.int .i64 0,.bool false])/\Below W.heap.size W w':=C;have C:=zid C;have HV:=zid (zcN k (zgB ht));clear ht
 go_enter Tryz.func91,Tryz.ntmps91
 go_wp2_with fail;refine (C.out _).mono ?_;rintro e w1 ⟨rfl,b1⟩;obtain ⟨hc,hf⟩:=bcell b1;have hb:Below w.heap.size w w1:=zap b1;go_wp2_with fail
 exact bodyPost_ret (v:= .tuple #[.agg #[.int .u8 0,.string ⟨#[]⟩],.int .i64 0,.bool false]) (by simp [results,Tryz.results91,go_sem,hc]) rfl
  ⟨by rw [HV.out],(hb.setCell (p:=⟨w.heap.size,0,none⟩) (Nat.le_refl _) _).setCell (p:=⟨w.heap.size,1,none⟩) (Nat.le_refl _) _⟩
theorem zkR (s:ByteArray) (k n j:Nat) (w:World) (hs:s.size<=4611686018427387904) (ht:Vp.take (s.data.toList.drop (k+1))=some (n,j)) (hn:s.size<k+1+j+n):
 Calls Tryz.prog 91 #[.string s,.int .i64 (k:Int)] w fun e w'=>e= .returned (zcO (s.data.toList.drop k) k)/\Below w.heap.size w w':=by
 obtain ⟨hk,hj,hn2⟩:=zfo ht;have C:=fun W:World=>zdp s ((k+1:Nat):Int) W (by omega);obtain ⟨q,hq⟩:∃q,k+1+j=q:=⟨_,rfl⟩;rw [zbf ht hq] at C;have C:∀W:World,Calls Tryz.prog 90 #[.string s,.int .i64 ((k:Int)+1)] W fun e w'=>e= .returned (.tuple #[.int .i64 (n:Int),.int .i64 (q:Int),.bool true])/\Below W.heap.size W w':=C;have C:=zid C;have HV:=zid (zcN k (by rw [zep ht hk,if_pos hn]))
 have h1:(s.size:Int)-(q:Int)<(n:Int):=by omega
 have h2:(q:Int)<=(s.size:Int):=by omega
 clear ht hq hn hj
 go_enter Tryz.func91,Tryz.ntmps91
 go_wp2_with fail;refine (C.out _).mono ?_;rintro e w1 ⟨rfl,b1⟩;obtain ⟨hc,hf⟩:=bcell b1;have hb:Below w.heap.size w w1:=zap b1;go_wp2_with fail
 exact bodyPost_ret (v:= .tuple #[.agg #[.int .u8 0,.string ⟨#[]⟩],.int .i64 0,.bool false]) (by simp [results,Tryz.results91,go_sem,hc]) rfl
  ⟨by rw [HV.out],(hb.setCell (p:=⟨w.heap.size,0,none⟩) (Nat.le_refl _) _).setCell (p:=⟨w.heap.size,1,none⟩) (Nat.le_refl _) _⟩
theorem pair_yes (s:ByteArray) (k n j:Nat) (w:World) (hs:s.size<=4611686018427387904) (ht:Vp.take (s.data.toList.drop (k+1))=some (n,j)) (hn:k+1+j+n<=s.size):
 Calls Tryz.prog 91 #[.string s,.int .i64 (k:Int)] w fun e w'=>e= .returned (zcO (s.data.toList.drop k) k)/\Below w.heap.size w w':=by
 obtain ⟨hk,hj,hn2⟩:=zfo ht;have C:=fun W:World=>zdp s ((k+1:Nat):Int) W (by omega);obtain ⟨q,hq⟩:∃q,k+1+j=q:=⟨_,rfl⟩;rw [zbf ht hq] at C;have C:∀W:World,Calls Tryz.prog 90 #[.string s,.int .i64 ((k:Int)+1)] W fun e w'=>e= .returned (.tuple #[.int .i64 (n:Int),.int .i64 (q:Int),.bool true])/\Below W.heap.size W w':=C;have C:=zid C;have HV:=zid (zdQ k (by rw [zep ht hk,if_neg (by omega)]));rw [hq,show k+(1+j+n)=q+n by omega] at HV
 have h1:(n:Int)<=(s.size:Int)-(q:Int):=by omega
 have h2:(q:Int)<=(s.size:Int):=by omega
 have h3:(q:Int)+(n:Int)<=(s.size:Int):=by omega
 have h4:(q:Int)<=(q:Int)+(n:Int):=by omega
 have h5:(k:Int)<(s.size:Int):=by omega
 clear ht hq hn hj
 go_enter Tryz.func91,Tryz.ntmps91
 go_wp2_with fail;refine (C.out _).mono ?_;rintro e w1 ⟨rfl,b1⟩;obtain ⟨hc,hf⟩:=bcell b1;have hb:Below w.heap.size w w1:=zap b1;go_wp2_with fail
 go_region
 go_wp2_with fail
 exact bodyPost_ret (v:= .tuple #[.agg #[.int .u8 (s[k].toNat:Int),.string (s.extract q (q+n))],.int .i64 ((q:Int)+(n:Int)),.bool true]) (by simp [results,Tryz.results91,go_sem,hc]) rfl
  ⟨by rw [HV.out];rfl,((hb.setCell (p:=⟨w.heap.size,0,none⟩) (Nat.le_refl _) _).setCell (p:=⟨w.heap.size,1,none⟩) (Nat.le_refl _) _).drew⟩
theorem pair_any (s:ByteArray) (k:Nat) (w:World) (hs:s.size<=4611686018427387904) (hk:k<=s.size):
 Calls Tryz.prog 91 #[.string s,.int .i64 (k:Int)] w fun e w'=>e= .returned (zcO (s.data.toList.drop k) k)/\Below w.heap.size w w':=by
 rcases ht:Vp.take (s.data.toList.drop (k+1)) with _ | ⟨n,j⟩
 · exact pair_no s k w hs hk ht
 · by_cases h:s.size<k+1+j+n
   · exact zkR s k n j w hs ht h
   · exact pair_yes s k n j w hs ht (by omega)
end
end Go.Proofs.YtgmppfpllogdcaaGreat

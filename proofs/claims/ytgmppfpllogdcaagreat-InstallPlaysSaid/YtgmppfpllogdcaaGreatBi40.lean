/-
  Parts of what the laws of this seat stand on:DiskRef10,RoAwk,RoSur,InsPlain,InsAwp,InsReg.
-/
import Derived.Test.YtgmppfpllogdcaaGreatBi1
import Derived.BigQuiet
import Derived.Deep.DeepCutAuto
import Derived.Deep.RegionWith
import Derived.IntWalk
import Derived.Test.YtgmppfpllogdcaaGreatBi16
import Derived.Test.YtgmppfpllogdcaaGreatBi17
import Derived.Test.YtgmppfpllogdcaaGreatBi19
import Derived.Test.YtgmppfpllogdcaaGreatBi20
import Derived.Test.YtgmppfpllogdcaaGreatBi22
import Derived.Test.YtgmppfpllogdcaaGreatBi29
import Derived.Test.YtgmppfpllogdcaaGreatBi36
import Derived.Test.YtgmppfpllogdcaaGreatBi39
set_option maxRecDepth 100000
set_option maxHeartbeats 6400000
namespace Go.Proofs.YtgmppfpllogdcaaGreat
namespace Dsk
open Go.RowKit Dp
theorem zh1 (l:List Fl) (ks:List Int) {k:Nat} (h:k<l.length):(zaA l ks).take (k+1)=(zaA l ks).take k++[left (l.getD k zero) (ze3 ks k)]:=by
 have hc:k<(zaA l ks).length:=by rw [zbB];exact h
 rw [List.take_succ_eq_append_getElem hc,zdJ l ks k h hc,zaD h]
theorem zju (fv:Value) (D:Dk) (kv:Value) (ks:List Int) (w:World) (hv:IsL FL w fv D.f) (hS:Sm D) (hk:IsL KL w kv ks):
 Calls Tryz.prog 21 #[zac fv D,kv] w fun e w'=>∃v,e= .returned (zac v (crash D ks))/\OwnL FL w' w.heap.size v (zaA D.f ks)/\Below w.heap.size w w':=by
 obtain ⟨i0,hi0,hz0,hz1,hz2⟩:=info_parts zdd
 obtain ⟨fa,fn,fc,rfl⟩:∃a n c,fv= .slice a n c:=by obtain ⟨a,c,h,_⟩:=hv;exact ⟨a,_,c,h⟩
 obtain ⟨ka,kn,kc,rfl⟩:∃a n c,kv= .slice a n c:=by obtain ⟨a,c,h,_⟩:=hk;exact ⟨a,_,c,h⟩
 have HV:=zid hv;have HK:=zid hk;have HR:=zid hS.r.1;have HFB:=zid hS.flb;have HKN:=zid hk.len.1
 have hkn:kn<=9223372036854775807:=by have:=hk.len;unfold maxLen at this;omega
 have hfl:=hv.len.1;have hl:D.f.length<=1000000:=hS.n;obtain ⟨g0,g1,gb,gs⟩:=zay w #[.slice fa fn fc,.int .i64 D.c,.bool D.a,.int .i64 D.l,.bool D.x] #[.slice none 0 0,.int .i64 0,.bool false,.int .i64 0,.bool false] 27 27;have G0:=zid g0;have G1:=zid g1;have GB:=zid gb;have GS:=zid gs;have HT:=zid fun k (hk:k<D.f.length)=>zh1 D.f ks hk;have HA:=zid (show ∀k,D.f.length<=k->(zaA D.f ks).take k=zaA D.f ks from fun k hk=>by rw [List.take_of_length_le (by rw [zbB];exact hk)]);have HLEN:=zid (show ∀k,((zaA D.f ks).take k).length<=k from fun k=>by rw [List.length_take];omega);obtain ⟨fl,dc,da,dl,dx⟩:=D;unfold crash;dsimp only at*;rw [<-hfl] at hl HT HA;have HFL:=zid hfl;clear hv hS hk g0 g1 gb gs hfl;unfold zac;dsimp only
 go_enter Tryz.func21,Tryz.ntmps21
 go_wp2_with fail;generalize World.alloc (World.alloc w _) _=w0 at G0 G1 GB GS ⊢
 go_loopw [5,6] (fun s i wr=>∃k:Nat,k<=fn/\i= .int .i64 k/\OwnL FL wr (w.heap.size+2) s ((zaA fl ks).take k)/\Below (w.heap.size+2) w0 wr) (fun _ i _=>fn-(intOf i).toNat)
 case atStart=>exact ⟨0,Nat.zero_le _,rfl,by rw [List.take_zero];exact OwnL.nil _ _,Below.refl _ _⟩
 case round=>
  obtain ⟨k,hk,rfl,hO,hB⟩:=hrel;have P0:wr.heap[w.heap.size]?=_:=(hB.block w.heap.size (by omega)).trans G0.out;obtain ⟨p0,p1,p2,p3,p4⟩:=zaa P0;have hwl:=(Array.getElem?_eq_some_iff.1 P0).1;have HO:=zid hO;have HB0:Below w.heap.size w wr:=GB.out.trans (hB.mono (by omega))
  by_cases hlt:k<fn
  · obtain ⟨b,off,rfl,c0,c1,c2⟩:=zb3 (HV.out.keep HB0) hlt
    have HTk:=HT.out k hlt
    have hlk:=HLEN.out k
    have hmem:fl.getD k zero∈fl:=by rw [zaD (by rw [<-HFL.out];exact hlt)];exact List.getElem_mem _
    have hok:=HR.out _ hmem;have hfb:=HFB.out _ hmem;generalize fl.getD k zero=f at*;obtain ⟨mo,hmo⟩:∃mo,ze3 ks k=mo:=⟨_,rfl⟩;rw [hmo] at HTk;obtain ⟨m,hm1,hm2,hm3⟩:=left_val hok mo;rw [hm3] at HTk;obtain ⟨E,hE⟩:∃E,f.d.extract 0 m=E:=⟨_,rfl⟩
    have hEs:E.size=m:=by rw [<-hE,ByteArray.size_extract];omega
    rw [hE] at HTk;generalize (zaA fl ks).take k=L at*;replace HTk:=zid HTk;have hq0:=hok.2.1;have hq1:=hok.2.2;have hq2:=hfb.2.1;have hgl:=block_lt_of_cell c0
    have hws:w.heap.size+2<=wr.heap.size:=by have:=hB.size;have:=GS.out;omega
    obtain ⟨n1,d1,s1⟩:=f;dsimp only at*;have HF:Hid (∀v' w3,w3.ownsRow (w.heap.size+2) 82 3 v' (L.length+1) (FL.vals L++zaj ⟨n1,E,(m:Int)⟩)->OwnL FL w3 (w.heap.size+2) v' (L++[⟨n1,E,(m:Int)⟩])):=fun v' w3 h=>OwnL.snoc (n:=L.length) h rfl rfl;have H1:=zid (show ∀u∈zaj ⟨n1,E,(m:Int)⟩,u.oneCell'=true from FL.one _);have HLT:=zid fun k' (h:_)=>HO.out.lt k' h;clear hmem hok hfb hO hm3 P0
    by_cases hkk:k<kn
    · obtain ⟨b',off',rfl,hcell⟩:∃b' off',ka=some ⟨b',off',none⟩/\w.cell? ⟨b',off'+k,none⟩=some (.int .i64 (ks.getD k 0)):=by
       have hk':=HK.out;obtain ⟨a',cap',e,_,_,h3⟩:=HK.out
       injection e with e1 e2 e3
       rcases h3 with h3 | ⟨b,off,h4,_⟩
       · rw [h3] at e2;simp at e2;omega
       · subst e1
         subst h4
         exact ⟨b,off,rfl,kl_at hk' hkk⟩
      have x1:wr.cell? ⟨b',off'+k,none⟩=some (.int .i64 mo):=by rw [HB0.cell (p:=⟨b',off'+k,none⟩) (block_lt_of_cell hcell),hcell, <-hmo];rfl
      have xl:=block_lt_of_cell x1;obtain ⟨kp,hkp⟩:∃kp,zhT ⟨n1,d1,s1⟩ mo=kp:=⟨_,rfl⟩;rw [hkp] at hm1;have hkv:max 0 (min mo ((d1.size:Int)-s1))=kp:=hkp
      have hkp0:0<=kp:=by rw [<-hkv];omega
      have HKV:=zid hkv;have HM1:=zid hm1;have G2:=zid (heap_alloc_new wr (.cells #[.string n1,.string d1,.int .i64 s1] 82));have B2:=zid ((Below.refl _ wr).alloc (Nat.le_refl _) (.cells #[.string n1,.string d1,.int .i64 s1] 82));have S2:=zid (show (wr.alloc (.cells #[.string n1,.string d1,.int .i64 s1] 82)).heap.size=wr.heap.size+1 by simp);clear hcell hkp hkv hm1 hmo;go_wp2_with fail;generalize wr.alloc _=w1 at G2 B2 S2 ⊢
      have hw1:wr.heap.size<w1.heap.size:=by rw [S2.out];omega
      have x1':=(B2.out.cell (p:=⟨b',off'+k,none⟩) xl).trans x1;obtain ⟨d0,d1',d2⟩:=cells3 G2.out;have xl1:=block_lt_of_cell x1';have hww:IntKind.i64.wrap ((d1.size:Int)-s1)=(d1.size:Int)-s1:=IntWalk.i64_in _ ⟨by omega,by omega⟩
      go_cut [8] (fun v w2=>v= .int .i64 kp/\Below w1.heap.size w1 w2)
      case first=>
       go_region
       all_goals go_wp2_with fail
       all_goals go_meet
       all_goals
        case rel=>exact ⟨congrArg (Value.int .i64) HKV.out,by first | exact (Below.refl _ _).drew | exact zae _⟩
      case rest=>
       obtain ⟨rfl,hbc⟩:=hcut;have hh:=hkeep G2.out hbc;have b2:=B2.out.trans (hbc.mono B2.out.size);clear x1 x1' xl xl1 hww d0 d1' d2 hbc;obtain ⟨d0,d1',d2⟩:=cells3 hh;obtain ⟨e0,e1,e2⟩:=zb7 hh;have hol:wr.heap.size<wc.heap.size:=(Array.getElem?_eq_some_iff.1 hh).1;have hm1:=HM1.out
       have hmb:s1+kp<=9223372036854775807:=by omega
       have HBC:=zid b2;clear b2 hh;have HB2:=zid (show Below wr.heap.size wr ((wc.setCell ⟨wr.heap.size,1,none⟩ (.string E)).setCell ⟨wr.heap.size,2,none⟩ (.int .i64 (m:Int))) from (HBC.out.setCell (p:=⟨wr.heap.size,1,none⟩) (Nat.le_refl _) (.string E)).setCell (p:=⟨wr.heap.size,2,none⟩) (Nat.le_refl _) (.int .i64 (m:Int)));have HOX:=zid (show (((wc.setCell ⟨wr.heap.size,1,none⟩ (.string E)).setCell ⟨wr.heap.size,2,none⟩ (.int .i64 (m:Int))).alloc (.cells (zaj ⟨n1,E,(m:Int)⟩).toArray 82)).ownsRow (w.heap.size+2) 82 3 u5 L.length (FL.vals L) from (HO.out.keep HB2.out).alloc _);have HNEW:=zid (zar ((wc.setCell ⟨wr.heap.size,1,none⟩ (.string E)).setCell ⟨wr.heap.size,2,none⟩ (.int .i64 (m:Int))) (wc.heap.size) (zaj ⟨n1,E,(m:Int)⟩) 82 (by simp));have HBW:=zid ((hB.trans (HB2.out.mono (by have:=hB.size;have:=GS.out;omega))).alloc (by simp;have:=hB.size;have:=GS.out;omega) (.cells (zaj ⟨n1,E,(m:Int)⟩).toArray 82))
       skip
       generalize hxs:FL.vals L=xs at*;generalize hll:L.length=ll at*;clear hxs hll
       go_wp2_with (at_builtin;refine wpList_append_own _ rfl _ _ 25 rfl (w.heap.size+2) 82 i0 (.agg #[.string ByteArray.empty,.string ByteArray.empty,.int .i64 0]) 3 40 Tryz.underlying25 hi0 hz0 hz1 hz2 rfl (by decide) _ _ _ rfl HOX.out ⟨wc.heap.size,0,none⟩ 1 1 (zaj ⟨n1,E,(m:Int)⟩) rfl rfl HNEW.out H1.out (by unfold maxLen;omega) (by omega) (by simp;omega) ?_;intro v' w3 hown' hgrow3 hnil3)
       go_roundw
       case rel=>
        exact ⟨k+1,by omega,by go_num,by rw [HTk.out];exact HF.out v' w3 hown',HBW.out.grown hgrow3 (by simp;omega) (fun q hq=>(HLT.out q hq).1)⟩
       case measure=>simp [intOf];omega
    · obtain rfl:mo=0:=by
       rw [<-hmo];unfold ze3;rw [List.getD_eq_getElem?_getD,List.getElem?_eq_none (by rw [<-HKN.out];omega)]
       rfl
      obtain rfl:s1=(m:Int):=by unfold zhT at hm1;dsimp only at hm1;omega
      clear hmo hm1;have HB2:=zid (show Below wr.heap.size wr (wr.alloc (.cells #[.string n1,.string E,.int .i64 (m:Int)] 82)) from (Below.refl _ wr).alloc (Nat.le_refl _) _);have HOX:=zid (show ((wr.alloc (.cells #[.string n1,.string E,.int .i64 (m:Int)] 82)).alloc (.cells (zaj ⟨n1,E,(m:Int)⟩).toArray 82)).ownsRow (w.heap.size+2) 82 3 u5 L.length (FL.vals L) from (HO.out.keep HB2.out).alloc _);have HNEW:=zid (zar (wr.alloc (.cells #[.string n1,.string E,.int .i64 (m:Int)] 82)) (wr.heap.size+1) (zaj ⟨n1,E,(m:Int)⟩) 82 (by simp));have HBW:=zid ((hB.trans (HB2.out.mono (by have:=hB.size;have:=GS.out;omega))).alloc (by simp;have:=hB.size;have:=GS.out;omega) (.cells (zaj ⟨n1,E,(m:Int)⟩).toArray 82))
      skip
      generalize hxs:FL.vals L=xs at*;generalize hll:L.length=ll at*;clear hxs hll
      go_wp2_with (at_builtin;refine wpList_append_own _ rfl _ _ 25 rfl (w.heap.size+2) 82 i0 (.agg #[.string ByteArray.empty,.string ByteArray.empty,.int .i64 0]) 3 40 Tryz.underlying25 hi0 hz0 hz1 hz2 rfl (by decide) _ _ _ rfl HOX.out ⟨wr.heap.size+1,0,none⟩ 1 1 (zaj ⟨n1,E,(m:Int)⟩) rfl rfl HNEW.out H1.out (by unfold maxLen;omega) (by omega) (by simp;omega) ?_;intro v' w3 hown' hgrow3 hnil3)
      go_roundw
      case rel=>
       exact ⟨k+1,by omega,by go_num,by rw [HTk.out];exact HF.out v' w3 hown',HBW.out.grown hgrow3 (by simp;omega) (fun q hq=>(HLT.out q hq).1)⟩
      case measure=>simp [intOf];omega
  · have hO':=hO
    rw [HA.out k (by omega)] at hO'
    have HOF:=zid hO';have P1:wr.heap[w.heap.size+1]?=_:=(hB.block (w.heap.size+1) (by omega)).trans G1.out;obtain ⟨q0,q1,q2,q3,q4⟩:=zaa P1;obtain ⟨qf0,qf1,qf2,qf3,qf4⟩:=zad P1;have BB:=zid HB0;obtain ⟨ga,gn,gc,rfl⟩:=own_slice hO;clear hO hO' P0 P1 HO HB0;go_wp2_with fail;refine bodyPost_ret (v:= .agg #[.slice ga gn gc,.int .i64 dc,.bool false,.int .i64 0,.bool false]) (by simp [results,Tryz.results21,go_sem,q0,q1,q2,q3,q4]) rfl ?_;exact ⟨_,rfl,zbd (zbD HOF.out (k:=w.heap.size+1) (by omega) _ _ _ _ _) (by omega),zai BB.out (by omega) _ _ _ _ _⟩
end Dsk
namespace Ro
open Go.RowKit So Dsk Rts Sto
theorem bd_crash {D:Dp.Dk} {k:Nat} (h:Bd D k) (ks:List Int):Bd (Dp.crash D ks) (k+1):=by
 have e:(Dp.act D ⟨8,0,⟨#[]⟩,⟨#[]⟩,ks⟩).1=Dp.crash D ks:=by unfold Dp.act;simp
 rw [<-e];exact zbO h (a:=⟨8,0,⟨#[]⟩,⟨#[]⟩,ks⟩) (by show (0:Int)<=_;omega) (by show 0<=3000;omega)
theorem rcrash_s {a:Option Addr} {n c:Nat} {D:Dp.Dk} {k:Nat} {kv:Value} {ks:List Int} {w:World} (h:Bd D k) (hk:k<=200000) (hv:IsL FL w (.slice a n c) D.f) (hkv:IsL KL w kv ks):
 Calls Tryz.prog 21 #[zac (.slice a n c) D,kv] w fun e w'=>∃a n c,e= .returned (zac (.slice a n c) (Dp.crash D ks))/\IsL FL w' (.slice a n c) (Dp.crash D ks).f/\(∀j,j<w.heap.size->Sep (.slice a n c) j)/\Below w.heap.size w w':=by
 refine (zju (.slice a n c) D kv ks w hv (zaM h (by omega)) hkv).mono ?_;rintro e w' ⟨v,rfl,ho,hb⟩;have hs:=zaM (bd_crash h ks) (by omega);have hi:=ho.is (by have:=hs.n;unfold maxLen;exact Nat.le_trans this (by decide)) hs.flb;obtain ⟨a',c',rfl,_⟩:=id hi;exact ⟨_,_,_,rfl,hi,fun j hj=>zcP ho hj,hb⟩
end Ro
namespace Ro
open Go.RowKit So Dsk Sto Trm
theorem log_stb {q F:Int} {S:St} {s0:List Fp.Pr} {rs:List Rp.Rec} {m:Nat} (hL:Lg.Log q S F s0 rs) (hd:Bd S.d m) (hm:m<=300000) (hq:q<=1000):Stb S:=by
 have ho:=hL.mo;have hv0:1<=S.v:=ho.v0;have hv1:S.v<=1099511627776:=ho.v1;have hx:=hL.x;have hf:=hL.f0;have hxn:=hL.fx;have hb:=hL.bases;have hlo:=hL.lo;have hhi:=hL.hi
 have hg64:S.g.length<=64:=by
  have h1:(S.g.map fun g=>g.b).length<=64:=ho.n1
  rwa [List.length_map] at h1
 have hz:0<=S.z/\S.z<=65536:=by
  rcases ho.z with ⟨_,h2,_⟩ | ⟨_,h2,h3⟩
  · have h2:S.z=0:=h2
    omega
  · have h2:1<=S.z:=h2
    have h3:S.z<=65536:=h3
    omega
 refine ⟨zaM hd hm,⟨by omega,by omega⟩,by omega,fun g hg=>?_,⟨by omega,by omega⟩,⟨by omega,by omega⟩,⟨hz.1,by omega⟩,ho.c⟩;obtain ⟨⟨a,b⟩,⟨c,d⟩,e,f⟩:=zfE hL g hg;exact ⟨⟨a,by omega⟩,⟨c,by omega⟩,e,by omega⟩
end Ro
namespace Ins
open Go.RowKit So Dsk Sto Trm
theorem bd_undo2 {R:Dp.Dk×Int} {k:Nat} (h:Bd R.1 k) (n m:ByteArray):Bd (Lg.undo2 R n m).1 (k+2):=by
 unfold Lg.undo2
 split
 · split
   · exact (zam h n).mono (by omega)
   · exact zam (zam h n) m
 · exact h.mono (by omega)
section
variable {S:St} {at_:Int} {L:List UInt8} {k:Nat}
theorem bd_inst1 (h:Bd S.d k) (hL:L.length<=3000):Bd (Lg.inst1 S at_ L).1 (k+3):=by
 have hbs:(⟨L.toArray⟩:ByteArray).size<=3000:=by show L.toArray.size<=3000;rw [List.size_toArray];exact hL
 have c:=zas h (Lg.snapN at_);unfold Lg.inst1
 split
 · exact c.mono (by omega)
 · exact bd_undo (zbb c (Lg.snapN at_) hbs) _ _
theorem bd_inst2 (h:Bd S.d k) (hL:L.length<=3000):Bd (Lg.inst2 S at_ L).1 (k+4):=by
 have h1:=bd_inst1 (at_:=at_) h hL;unfold Lg.inst2
 split
 · exact h1.mono (by omega)
 · exact zbs h1 _
theorem bd_inst3 (h:Bd S.d k) (hL:L.length<=3000):Bd (Lg.inst3 S at_ L).1 (k+5):=by
 have h1:=bd_inst2 (at_:=at_) h hL;unfold Lg.inst3
 split
 · exact h1.mono (by omega)
 · exact zas h1 _
theorem zfP (h:Bd S.d k) (hL:L.length<=3000):Bd (Lg.inst4 S at_ L).1 (k+12):=by
 have h1:=bd_inst3 (at_:=at_) h hL;unfold Lg.inst4
 split
 · exact h1.mono (by omega)
 · exact bd_undo2 (zb9 h1 _) _ _
theorem zcF (h:Bd S.d k) (hL:L.length<=3000):Bd (Lg.installT S at_ L).1.d (k+13+S.g.length):=by
 have h4:=zfP (at_:=at_) h hL
 have h5:Bd (Lg.inst5 S (Lg.inst4 S at_ L).1).1 (k+13+S.g.length):=by
  have d:=zdK S.g h4;unfold Lg.inst5
  split
  · exact (zam d _).mono (by omega)
  · exact d.mono (by omega)
 unfold Lg.installT
 split
 · exact h.mono (by omega)
 split
 · exact h4.mono (by omega)
 · exact h5
end
theorem zd3 {S:St} {at_:Int} {L:List UInt8} (h:at_<=S.x\/1099511627776<at_\/Fp.parse L=none):Lg.installT S at_ L=(S,1):=by
 unfold Lg.installT;rw [if_pos h]
theorem zc3 {q F:Int} {S:St} {s0:List Fp.Pr} {rs:List Rp.Rec} (h:Lg.Log q S F s0 rs) (hq:0<=q) (hv:S.v<1099511627776) {at_:Int} {L:List UInt8}:
 (Lg.installT S at_ L=(S,1)/\(at_<=S.x\/1099511627776<at_\/Fp.parse L=none))\/
 (S.x<at_/\at_<=1099511627776/\∃l,Fp.parse L=some l/\Fp.St l/\L=Fp.bytes l/\
  ((Lg.Log q (Lg.installT S at_ L).1 F s0 rs/\(((Lg.installT S at_ L).2=9/\S.d.x=false/\0<S.d.c/\∀n,Dp.get (Lg.installT S at_ L).1.d.f n=Dp.get S.d.f n)\/((Lg.installT S at_ L).2=10/\(Lg.installT S at_ L).1.d.x=true))/\(Lg.installT S at_ L).1={S with d:=(Lg.installT S at_ L).1.d})\/
   (Lg.Log q (Lg.installT S at_ L).1 at_ l []/\((Lg.installT S at_ L).2=0\/((Lg.installT S at_ L).2=10/\(Lg.installT S at_ L).1.d.x=true))/\(Lg.installT S at_ L).1={Lg.instX S at_ L with d:=(Lg.installT S at_ L).1.d}))):=by
 by_cases hc:at_<=S.x\/1099511627776<at_\/Fp.parse L=none
 · exact .inl ⟨zd3 hc,hc⟩
 · right
   have h1:¬at_<=S.x:=fun e=>hc (.inl e)
   have h2:¬1099511627776<at_:=fun e=>hc (.inr (.inl e))
   rcases hp:Fp.parse L with _ | l
   · exact absurd (.inr (.inr hp)) hc
   obtain rfl:=Fp.parse_eq hp;have hl:=Fp.parse_st hp;exact ⟨by omega,by omega,l,rfl,hl,rfl,h.install hq hl ⟨by omega,by omega⟩ hv⟩
section
variable {q at_:Int} {l:List Fp.Pr} {v k:Nat} {ds:List ByteArray} {Y:St}
end
theorem zjc {q F:Int} {S:St} {s0:List Fp.Pr} {rs:List Rp.Rec} (h:Lg.Log q S F s0 rs) (hF:0<F):Lg.snapT S=Fp.bytes s0:=by
 unfold Lg.snapT;rw [h.fl]
 rcases h.sn with ⟨h1,_⟩ | ⟨h1,h2,h3,h4,h5⟩
 · omega
 · rw [if_neg (by omega),h5.dat]
   rfl
def awS:ByteArray:=⟨#[1,97,1,49]⟩
theorem zlN:Fp.parse awS.data.toList=some (Fp.step [] ⟨#[97,49]⟩):=by
 have hs:Fp.St (Fp.step [] ⟨#[97,49]⟩):=Fp.St.nil.step (by decide);rw [<-Fp.parse_bytes hs]
 congr 1
structure Aw15 (S X:St):Prop where
 c:zal Dp.empty=(S,0)
 i:Lg.installT S 7 awS.data.toList=(X,0)
 g0:G13 20 0 0 S
 g:X.g=[⟨7,0,0⟩]
 x:X.x=7
 s:(⟨(Lg.snapT X).toArray⟩:ByteArray)=awS
 b:Stb X
theorem aw15:∃S X,Aw15 S X:=by
 obtain ⟨n1,n2,n3⟩:=Lg.Log.new (q:=20) (by decide);have hc:=zfL (D:=Dp.empty) ⟨rfl,rfl,rfl⟩;have G0:=G13.new (q:=20) (by decide);have ho:zal Dp.empty=((zal Dp.empty).1,0):=Prod.ext rfl n1;generalize (zal Dp.empty).1=S at*;have hx0:S.x=0:=n2.x;have hv:=Lg.via_install S 7 awS.data.toList;obtain ⟨v1,v2,_⟩:=hv.k hc.a hc.x;have hbd:=zcF (at_:=7) (L:=awS.data.toList) G0.d (by decide);have hlen:=G0.segs
 rcases zc3 n2 (by decide) (show S.v<1099511627776 by rw [n3];decide) (at_:=7) (L:=awS.data.toList) with ⟨_,e⟩ | ⟨_,_,l,hp,hl,hb,⟨_,h2,_⟩ | ⟨h1,h2,h3⟩⟩
 · exfalso
   rcases e with e | e | e
   · omega
   · omega
   · rw [zlN] at e;cases e
 · exfalso
   rcases h2 with ⟨_,_,h,_⟩ | ⟨_,h⟩
   · have:=hc.c;omega
   · rw [v2] at h;cases h
 · have h0:(Lg.installT S 7 awS.data.toList).2=0:=by
    rcases h2 with h2 | ⟨_,h⟩
    · exact h2
    · rw [v2] at h;cases h
   refine ⟨S,(Lg.installT S 7 awS.data.toList).1,ho,Prod.ext rfl h0,G0,by rw [h3];rfl,by rw [h3];rfl,?_,Ro.log_stb h1 hbd (by omega) (by decide)⟩;rw [zjc h1 (by decide), <-hb]
end Ins
namespace Ins
open Go.RowKit So Dsk Rts Sto
section
variable {w W W5 Wc:World} {b t:Nat} {fv0 gv0 fv:Value} {cs cs':List (Nat×Obj)} {fs:List (Value×List Dp.Fl)} {gs:List (Value×List Rt.Sg)} {l:List Dp.Fl} {D:Dp.Dk} {a:Option Addr} {n c:Nat} {o:Obj}
def DkR (w:World) (b:Nat) (fv0 gv0:Value) (cs:List (Nat×Obj)) (fs:List (Value×List Dp.Fl)) (gs:List (Value×List Rt.Sg)) (t:Nat) (D:Dp.Dk) (W:World):Prop:=
 ∃a n c,Ms w b fv0 gv0 ((t,.cells #[.slice a n c,.int .i64 D.c,.bool D.a,.int .i64 D.l,.bool D.x] 27)::cs) ((.slice a n c,D.f)::fs) gs W
theorem ms_box (h:Ms w b fv0 gv0 cs fs gs W) (hb:b<=t) (ho:W.heap[t]?=some o) (hf:∀p∈fs,Sep p.1 t) (hg:∀p∈gs,Sep p.1 t):Ms w b fv0 gv0 ((t,o)::cs) fs gs W:=
 ⟨fun p hp=>by
  rcases List.mem_cons.1 hp with rfl | hp
  · exact ⟨hb,ho⟩
  · exact h.c p hp,fun p hp=>⟨(h.f p hp).1,fun q hq=>by
  rcases List.mem_cons.1 hq with rfl | hq
  · exact hf p hp
  · exact (h.f p hp).2.1 q hq,(h.f p hp).2.2⟩,fun p hp=>⟨(h.g p hp).1,fun q hq=>by
  rcases List.mem_cons.1 hq with rfl | hq
  · exact hg p hp
  · exact (h.g p hp).2.1 q hq,(h.g p hp).2.2⟩,h.le,h.w⟩
theorem DkR.A (h:Ms w b fv0 gv0 cs fs gs W) (hm:(fv,l)∈fs) (q:Below W.heap.size W Wc) (k:DkS Wc fv D (.slice a n c) W5):DkR w b fv0 gv0 cs fs gs W5.heap.size D (W5.alloc (.cells #[.slice a n c,.int .i64 D.c,.bool D.a,.int .i64 D.l,.bool D.x] 27)):=
 ⟨a,n,c,((h.keep q).call (D':=D) hm k).alloc _ _⟩
theorem DkR.B (h:Ms w b fv0 gv0 cs fs gs W) (hm:(fv,l)∈fs) (q:Below W.heap.size W Wc) (k:DkS Wc fv D (.slice a n c) W5) {x0 x1 x2 x3 x4:Value} (hz:W5.heap[t]?=some (.cells #[x0,x1,x2,x3,x4] 27 (0,0))) (h4:W.heap.size<=t) (h5:t<Wc.heap.size):
 DkR w b fv0 gv0 cs fs gs t D (((((W5.setCell ⟨t,0,none⟩ (.slice a n c)).setCell ⟨t,1,none⟩ (.int .i64 D.c)).setCell ⟨t,2,none⟩ (.bool D.a)).setCell ⟨t,3,none⟩ (.int .i64 D.l)).setCell ⟨t,4,none⟩ (.bool D.x)):=by
 have M:=ms_box (t:=t) (((h.keep q).call (D':=D) hm k)) (Nat.le_trans h.le h4) hz (fun p hp=>by
  rcases List.mem_cons.1 hp with rfl | hp
  · exact k.s t h5 (IsL.sep_new (h.f _ hm).1 h4)
  · exact IsL.sep_new (h.f p hp).1 h4) (fun p hp=>IsL.sep_new (h.g p hp).1 h4)
 obtain ⟨Z,hZ,MZ⟩:=M.lay5 (t:=t) (cs':=(t,.cells #[.slice a n c,.int .i64 D.c,.bool D.a,.int .i64 D.l,.bool D.x] 27)::cs) mcs (.slice a n c) (.int .i64 D.c) (.bool D.a) (.int .i64 D.l) (.bool D.x) (fun p hp=>by
  rcases List.mem_cons.1 hp with rfl | hp
  · exact .inl rfl
  · refine .inr ⟨mcm hp,fun e=>?_⟩
    have h1:p.1<W.heap.size:=(Array.getElem?_eq_some_iff.1 (h.c p hp).2).1
    omega)
 rw [hZ];exact ⟨a,n,c,MZ⟩
end
end Ins
end Go.Proofs.YtgmppfpllogdcaaGreat

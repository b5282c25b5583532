/-
  Parts of what the laws of this seat stand on:TrmUndo,FoldBytes.
-/
import Derived.Deep.AppendSrc
import Derived.Deep.RegionHeld3
import Derived.Laws.CopyRow
import Derived.Laws.IdiomCopy
import Derived.Test.YtgmppfpllogdcaaGreatBi1
import Derived.Test.YtgmppfpllogdcaaGreatBi15
import Derived.Test.YtgmppfpllogdcaaGreatBi16
import Derived.Test.YtgmppfpllogdcaaGreatBi19
import Derived.Test.YtgmppfpllogdcaaGreatBi31
import Derived.Test.YtgmppfpllogdcaaGreatBi6
set_option maxRecDepth 100000
set_option maxHeartbeats 6400000
namespace Go.Proofs.YtgmppfpllogdcaaGreat
namespace Trm
open Go.RowKit So Dsk Rts Sto
structure Us (w:World) (b:Nat) (fv0 fv:Value) (D:Dp.Dk) (W:World):Prop where
 d:W.heap[b]?=some (.cells #[fv,.int .i64 D.c,.bool D.a,.int .i64 D.l,.bool D.x] 27 (0,0))
 r:W.heap[b+1]?=some (.cells #[.slice none 0 0,.int .i64 0,.bool false,.int .i64 0,.bool false] 27 (0,0))
 f:IsL FL W fv D.f
 s:Sep fv b/\Sep fv (b+1)
 k:∀t,t<b->Sep fv0 t->Sep fv t
 w:Below b w W
theorem Us.keep {w W W':World} {b:Nat} {fv0 fv:Value} {D:Dp.Dk} (h:Us w b fv0 fv D W) (k:Below W.heap.size W W'):Us w b fv0 fv D W':=
 ⟨hkeep h.d k,hkeep h.r k,h.f.keep k,h.s,h.k,h.w.trans (k.mono (by have:=(Array.getElem?_eq_some_iff.1 h.d).1;omega))⟩
theorem Us.lay {w W W':World} {b:Nat} {fv0 fv fv':Value} {D D':Dp.Dk} (h:Us w b fv0 fv D W) (k:DkS W fv D' fv' W'):
 ∃Z,((((W'.setCell ⟨b,0,none⟩ fv').setCell ⟨b,1,none⟩ (.int .i64 D'.c)).setCell ⟨b,2,none⟩ (.bool D'.a)).setCell ⟨b,3,none⟩ (.int .i64 D'.l)).setCell ⟨b,4,none⟩ (.bool D'.x)=Z/\Us w b fv0 fv' D' Z:=by
 have h0:b<W.heap.size:=(Array.getElem?_eq_some_iff.1 h.d).1;have h1:b+1<W.heap.size:=(Array.getElem?_eq_some_iff.1 h.r).1;have s0:=k.s b h0 h.s.1
 have ho:∀j,j≠b->∀o,W'.heap[j]?=some o->(set5 W' b fv' (.int .i64 D'.c) (.bool D'.a) (.int .i64 D'.l) (.bool D'.x)).heap[j]?=some o:=fun j hj o e=>by
  unfold set5;rw [Below.heap_setCell _ _ _ j (fun e=>hj e),Below.heap_setCell _ _ _ j (fun e=>hj e),Below.heap_setCell _ _ _ j (fun e=>hj e),Below.heap_setCell _ _ _ j (fun e=>hj e),Below.heap_setCell _ _ _ j (fun e=>hj e)];exact e
 exact ⟨_,rfl,za5 (hkeep h.d k.w) _ _ _ _ _,ho _ (by omega) _ (hkeep h.r k.w),IsL.set5 k.f s0 _ _ _ _ _,
  ⟨s0,k.s _ h1 h.s.2⟩,fun t ht hs=>k.s t (by omega) (h.k t ht hs),zai (h.w.trans (k.w.mono (Nat.le_of_lt h0))) (Nat.le_refl _) _ _ _ _ _⟩
theorem Us.end {w W:World} {fv0 fv:Value} {D:Dp.Dk} (h:Us w w.heap.size fv0 fv D W):
 ∃Z,((((W.setCell ⟨w.heap.size+1,0,none⟩ fv).setCell ⟨w.heap.size+1,1,none⟩ (.int .i64 D.c)).setCell ⟨w.heap.size+1,2,none⟩ (.bool D.a)).setCell ⟨w.heap.size+1,3,none⟩ (.int .i64 D.l)).setCell ⟨w.heap.size+1,4,none⟩ (.bool D.x)=Z/\Z.heap[w.heap.size+1]?=some (.cells #[fv,.int .i64 D.c,.bool D.a,.int .i64 D.l,.bool D.x] 27 (0,0))/\DkS w fv0 D fv Z:=
 ⟨_,rfl,za5 h.r _ _ _ _ _,IsL.set5 h.f h.s.2 _ _ _ _ _,h.k,zai h.w (by omega) _ _ _ _ _⟩
theorem zec (fa:Option Addr) (fn fc:Nat) (D:Dp.Dk) (e:Int) (n:ByteArray) (w:World) (k:Nat) (hv:IsL FL w (.slice fa fn fc) D.f) (hS:Bd D k) (hk:k<=100000):
 Calls Tryz.prog 57 #[zac (.slice fa fn fc) D,.int .i64 e,.string n] w (zaL w (.slice fa fn fc) (Lg.undo (D,e) n)):=by
 obtain ⟨g0,g1,gb,gs⟩:=zay w #[.slice fa fn fc,.int .i64 D.c,.bool D.a,.int .i64 D.l,.bool D.x] #[.slice none 0 0,.int .i64 0,.bool false,.int .i64 0,.bool false] 27 27;have BS0:=zid (show Us w w.heap.size (.slice fa fn fc) (.slice fa fn fc) D _ from ⟨g0,g1,hv.keep gb,⟨IsL.sep_new hv (Nat.le_refl _),IsL.sep_new hv (by omega)⟩,fun _ _ h=>h,gb⟩);have RD:=zid fun (W:World) (h:IsL FL W (.slice fa fn fc) D.f)=>zbe hS (by omega) n h;have HU:=zid (show Lg.undo (D,e) n=if e=9 then ((Dp.delete D n).1,if (Dp.delete D n).2=0 then 9 else (Dp.delete D n).2) else (D,e) from rfl);obtain ⟨⟨X,E⟩,hX⟩:∃R,Dp.delete D n=R:=⟨_,rfl⟩;rw [hX] at RD HU;dsimp only at HU;obtain ⟨p0,p1,p2,p3,p4⟩:=zaa g0;obtain ⟨q0,q1,q2,q3,q4⟩:=zaa g1;obtain ⟨qf0,qf1,qf2,qf3,qf4⟩:=zad g1;have HV:=zid hv;clear g0 g1 gb gs hv hS hX;unfold zac at RD ⊢
 by_cases h9:e=9
 case neg=>
  have e9:(e != 9)=true:=by simpa using h9
  have HR:Lg.undo (D,e) n=(D,e):=by rw [HU.out,if_neg h9]
  rw [HR];clear HU HR RD h9
  go_enter Tryz.func57,Tryz.ntmps57
  go_wp2_with fail;obtain ⟨g0,g1,gb,gs⟩:=zay w #[.slice fa fn fc,.int .i64 D.c,.bool D.a,.int .i64 D.l,.bool D.x] #[.slice fa fn fc,.int .i64 D.c,.bool D.a,.int .i64 D.l,.bool D.x] 27 27;obtain ⟨z0,z1,z2,z3,z4⟩:=zaa g1;refine bodyPost_ret (v:= .tuple #[.agg #[.slice fa fn fc,.int .i64 D.c,.bool D.a,.int .i64 D.l,.bool D.x],.int .i64 e]) (by simp [results,Tryz.results57,go_sem,z0,z1,z2,z3,z4]) rfl ?_;exact ⟨_,_,_,rfl,HV.out.keep gb,fun _ _ h=>h,gb⟩
 subst h9;have e9:((9:Int) != 9)=false:=rfl;obtain ⟨E2,hE2⟩:∃E2,(if E=0 then 9 else E)=E2:=⟨_,rfl⟩
 have HR:Lg.undo (D,9) n=(X,E2):=by rw [HU.out,if_pos rfl,hE2]
 have HE2:=zid hE2;rw [HR];clear hE2;clear HU HR
 go_enter Tryz.func57,Tryz.ntmps57
 go_wp2_with fail;generalize World.alloc (World.alloc w _) _=w0 at BS0 p0 p1 p2 p3 p4 q0 q1 q2 q3 q4 qf0 qf1 qf2 qf3 qf4 ⊢;refine (RD.out w0 BS0.out.f).mono ?_;rintro e w1 ⟨a1,n1,c1,rfl,k1⟩;have B1:=BS0.out.keep k1.w;have L1:=zid (BS0.out.lay k1);clear p0 p1 p2 p3 p4 q0 q1 q2 q3 q4 qf0 qf1 qf2 qf3 qf4;obtain ⟨p0,p1,p2,p3,p4⟩:=zaa B1.d;obtain ⟨pf0,pf1,pf2,pf3,pf4⟩:=zad B1.d;clear B1 k1;unfold zac;dsimp only at L1 ⊢;go_upto_region 4 with (fail);obtain ⟨Z,hZ,Z1⟩:=L1.out;rw [hZ];have BZ:=zid Z1;obtain ⟨q0,q1,q2,q3,q4⟩:=zaa Z1.d;obtain ⟨r0,r1,r2,r3,r4⟩:=zaa Z1.r;obtain ⟨rf0,rf1,rf2,rf3,rf4⟩:=zad Z1.r;clear hZ L1 Z1 p0 p1 p2 p3 p4 pf0 pf1 pf2 pf3 pf4
 by_cases hE:E=0
 · subst hE
   obtain rfl:E2=9:=by rw [<-HE2.out,if_pos rfl]
   clear HE2;go_wp2_with fail;obtain ⟨Y,hY,Y1,Y2⟩:=BZ.out.end;rw [hY];obtain ⟨z0,z1,z2,z3,z4⟩:=zaa Y1;refine bodyPost_ret (v:= .tuple #[.agg #[.slice a1 n1 c1,.int .i64 X.c,.bool X.a,.int .i64 X.l,.bool X.x],.int .i64 9]) (by simp [results,Tryz.results57,go_sem,z0,z1,z2,z3,z4]) rfl ?_;exact ⟨_,_,_,rfl,Y2⟩
 · have hE':(E != 0)=true:=by simpa using hE
   obtain rfl:E2=E:=by rw [<-HE2.out,if_neg hE]
   clear hE HE2;go_wp2_with fail;obtain ⟨Y,hY,Y1,Y2⟩:=BZ.out.end;rw [hY];obtain ⟨z0,z1,z2,z3,z4⟩:=zaa Y1;refine bodyPost_ret (v:= .tuple #[.agg #[.slice a1 n1 c1,.int .i64 X.c,.bool X.a,.int .i64 X.l,.bool X.x],.int .i64 E2]) (by simp [results,Tryz.results57,go_sem,z0,z1,z2,z3,z4]) rfl ?_;exact ⟨_,_,_,rfl,Y2⟩
end Trm
section
open Go.RowKit
theorem zls {l:List Fp.Pr} {k:Nat} (h:k<l.length):Fp.flat (l.take (k+1))=Fp.flat (l.take k)++([(l.getD k Fp.zero).k]++Vp.put (l.getD k Fp.zero).v.size++(l.getD k Fp.zero).v.data.toList):=by
 rw [List.take_succ_eq_append_getElem h,Fp.flat_snoc,zbK h]
 rfl
theorem fewP_val {l:List Fp.Pr} (h:fewP l=true) {i:Nat} (hi:i<l.length):(l.getD i Fp.zero).v.size<=100:=by
 unfold fewP at h;rw [Bool.and_eq_true,List.all_eq_true] at h;rw [zbK hi];exact of_decide_eq_true (h.2 _ (List.getElem_mem _))
theorem zlF {w w4:World} {c:UInt8} (b:Below (w.alloc (.cells #[.int .u8 (c.toNat:Int)] 5)).heap.size (w.alloc (.cells #[.int .u8 (c.toNat:Int)] 5)) w4):
 (convert 132 9 (.slice (some ⟨w.heap.size,0,none⟩) 1 1)).run Tryz.prog w4= .ok (.string ⟨#[c]⟩) w4:=by
 have e:([c]:List UInt8).toArray= #[c]:=rfl;rw [<-e];refine run_convert_bytes_back w4 132 9 5 ⟨w.heap.size,0,none⟩ 1 [c] Tryz.underlying132 Tryz.underlying5 Tryz.underlying9 (fun j hj=>?_)
 have hj0:j=0:=by simpa using hj
 subst hj0
 have h0:(w.alloc (.cells #[.int .u8 (c.toNat:Int)] 5)).cell? ⟨w.heap.size,0,none⟩=some (.int .u8 (c.toNat:Int)):=by rw [cell_of_row _ _ 0 _ _ (0,0) (heap_alloc_new w _)];rfl
 show w4.cell? ⟨w.heap.size,0,none⟩=_;rw [b.cell (p:=⟨w.heap.size,0,none⟩) (block_lt_of_cell h0),h0]
 rfl
theorem zeu {w w1 w2:World} {b o:Nat} {x y:Value} (hb:b<w.heap.size) (h:w1.cell? ⟨b,o,none⟩=some x/\w1.cell? ⟨b,o+1,none⟩=some y/\Below w.heap.size w w1) (k:Below w1.heap.size w1 w2):
 w2.cell? ⟨b,o,none⟩=some x/\w2.cell? ⟨b,o+1,none⟩=some y/\Below w.heap.size w w2:=by
 have hl:=Nat.lt_of_lt_of_le hb h.2.2.size;exact ⟨(k.cell (p:=⟨b,o,none⟩) hl).trans h.1,(k.cell (p:=⟨b,o+1,none⟩) hl).trans h.2.1,h.2.2.trans (k.mono h.2.2.size)⟩
theorem zj7 (L:List UInt8) (c:UInt8) (B:List UInt8) (s:ByteArray):Value.string ({data:=L.toArray}++{data:= #[c]}++{data:=B.toArray}++s)= .string ⟨(L++[c]++B++s.data.toList).toArray⟩:=by
 refine congrArg Value.string (ByteArray.ext ?_)
 apply Array.ext'
 simp
theorem text_len (L:List UInt8) (c:UInt8) (B:List UInt8) (s:ByteArray):(L++[c]++B++s.data.toList).length=L.length+1+B.length+s.size:=by
 have:s.data.toList.length=s.size:=rfl;simp only [List.length_append,List.length_cons,List.length_nil,this]
theorem zgq (l:List Fp.Pr) (b off cap:Nat) (w:World) (hl:l.length<=300) (hv:∀i,i<l.length->(l.getD i Fp.zero).v.size<=100)
 (hc:∀i,i<l.length->w.cell? ⟨b,off+i*2,none⟩=some (.int .u8 ((l.getD i Fp.zero).k.toNat:Int))/\w.cell? ⟨b,off+i*2+1,none⟩=some (.string (l.getD i Fp.zero).v)):
 Calls Tryz.prog 56 #[.slice (some ⟨b,off,none⟩) l.length cap] w fun e w'=>e= .returned (.string ⟨(Fp.bytes l).toArray⟩)/\Below w.heap.size w w':=by
 have P0:=zid fun W:World=>zdZ l.length W (by omega);have HC:=zid hc;have HVS:=zid hv;have HT:=zid fun (k:Nat) (h:k<l.length)=>zls h;have HF:=zid (show Fp.bytes l=Vp.put l.length++Fp.flat (l.take l.length) by rw [List.take_length];rfl);have hB0l:=Vp.put_len_le l.length;clear hc hv;generalize Fp.bytes l=R at*;generalize hB0:Vp.put l.length=B0 at*;clear hB0;obtain ⟨len,hlen⟩:∃len,l.length=len:=⟨_,rfl⟩;rw [hlen] at HC HVS HT HF hl P0 ⊢;clear hlen
 go_enter Tryz.func56,Tryz.ntmps56
 go_wp2_with fail;refine (P0.out _).mono ?_;rintro e w1 ⟨rfl,b1⟩;have HB1:=zid b1;clear b1;go_wp2_with fail
 go_loopw [3,4] (fun s i wr=>∃(k:Nat) (L:List UInt8),k<=len/\i= .int .i64 k/\s= .string ⟨L.toArray⟩/\L=B0++Fp.flat (l.take k)/\L.length<=9+k*110/\Below w.heap.size w wr) (fun _ i _=>len-(intOf i).toNat)
 case atStart=>exact ⟨0,B0,Nat.zero_le _,rfl,rfl,by simp [Fp.flat],by omega,HB1.out⟩
 case round=>
  obtain ⟨k,L,hk,rfl,rfl,hL,hLl,bel⟩:=hrel;have HL:=zid hL;clear hL
  by_cases hlt:k<len
  · obtain ⟨c0,c1⟩:=HC.out k hlt
    have hbb:=block_lt_of_cell c0
    have HS:Hid (wr.cell? ⟨b,off+k*2,none⟩=some (.int .u8 ((l.getD k Fp.zero).k.toNat:Int))/\wr.cell? ⟨b,off+k*2+1,none⟩=some (.string (l.getD k Fp.zero).v)/\Below w.heap.size w wr):=
     ⟨by rw [bel.cell (p:=⟨b,off+k*2,none⟩) hbb];exact c0,by rw [bel.cell (p:=⟨b,off+k*2+1,none⟩) hbb];exact c1,bel⟩
    clear c0 c1 bel;have HT2:=zid (HT.out k hlt);have hv:=HVS.out k hlt;generalize l.getD k Fp.zero=p at*;have P:=zid fun W:World=>zdZ p.v.size W (by omega);have hpl:=Vp.put_len_le p.v.size;generalize Vp.put p.v.size=B1 at*
    have s1:¬9223372036854775807<L.length+1:=by omega
    have s2:¬9223372036854775807<L.length+1+B1.length:=by omega
    have s3:¬9223372036854775807<L.length+1+B1.length+p.v.size:=by omega
    have hS:=HS.out;have hcv0:=zlF (w:=wr) (c:=p.k) (Below.refl _ _).drew;go_wp2_with fail
    go_region_held (fun w'=>w'.cell? ⟨b,off+k*2,none⟩=some (.int .u8 (p.k.toNat:Int))/\w'.cell? ⟨b,off+k*2+1,none⟩=some (.string p.v)/\Below w.heap.size w w')
     (first | assumption | exact zeu hbb (by assumption) (Below.refl _ _).drew | exact zeu hbb (by assumption) ((Below.refl _ _).alloc (Nat.le_refl _) _) | exact zeu hbb (by assumption) (by assumption))
     (first | (go_at_call 76;refine (P.out _).mono ?_;rintro e w4 ⟨rfl,b4⟩;have hcv5:=zlF (w:=w4) (c:=p.k) (Below.refl _ _);try have hcv4:=zlF (w:=wr) (c:=p.k) (w4:=w4) ⟨b4.os,b4.tape,b4.output,b4.size,b4.block⟩))
    all_goals
     go_wp2_with fail
     go_roundw
     case rel=>exact ⟨k+1,_,by omega,by go_num,zj7 L p.k B1 p.v,by rw [HT2.out,HL.out];simp,by rw [text_len];omega,And.right (And.right (by assumption))⟩
     case measure=>simp [intOf];omega
  · obtain rfl:k=len:=by omega
    have HG:=zid (show L=R by rw [HL.out,HF.out])
    have HBL:=zid bel;clear bel;go_wp2_with fail;go_ret;exact ⟨by rw [HG.out];rfl,HBL.out⟩
theorem zgr (a:Option Addr) (cap:Nat) (w:World):
 Calls Tryz.prog 56 #[.slice a 0 cap] w fun e w'=>e= .returned (.string ⟨(Fp.bytes []).toArray⟩)/\Below w.heap.size w w':=by
 have P0:=zid fun W:World=>zdZ 0 W (by omega);have HF:=zid (show Fp.bytes []=Vp.put 0 by rfl);generalize Fp.bytes []=R at*;generalize Vp.put 0=B0 at*;have hE:=HF.out;subst hE
 go_enter Tryz.func56,Tryz.ntmps56
 go_wp2_with fail;refine (P0.out _).mono ?_;rintro e w1 ⟨rfl,b1⟩;go_wp2_with fail;refine wp_loop_rounds 1 ?_;rw [rounds_succ];go_wp2_with fail;go_ret;exact ⟨rfl,b1⟩
theorem zhG (v:Value) (l:List Fp.Pr) (w:World) (h:zaY w v l) (hf:fewP l=true):
 Calls Tryz.prog 56 #[v] w fun e w'=>e= .returned (.string ⟨(Fp.bytes l).toArray⟩)/\Below w.heap.size w w':=by
 obtain ⟨a,cap,rfl,_,_,h3⟩:=h
 rcases h3 with rfl | ⟨b,off,rfl,h4⟩
 · exact zgr a cap w
 · exact zgq l b off cap w (fewP_le hf) (fun i hi=>fewP_val hf hi) h4
end
end Go.Proofs.YtgmppfpllogdcaaGreat

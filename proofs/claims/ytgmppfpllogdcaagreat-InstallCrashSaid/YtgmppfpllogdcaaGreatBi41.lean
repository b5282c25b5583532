/-
  Parts of what the laws of this seat stand on:InsNew,InsClo.
-/
import Derived.Test.YtgmppfpllogdcaaGreatBi1
import Derived.Deep.RegionHeld3
import Derived.Test.YtgmppfpllogdcaaGreatBi15
import Derived.Test.YtgmppfpllogdcaaGreatBi22
import Derived.Test.YtgmppfpllogdcaaGreatBi23
import Derived.Test.YtgmppfpllogdcaaGreatBi29
import Derived.Test.YtgmppfpllogdcaaGreatBi33
import Derived.Test.YtgmppfpllogdcaaGreatBi35
import Derived.Test.YtgmppfpllogdcaaGreatBi36
set_option maxRecDepth 100000
set_option maxHeartbeats 6400000
namespace Go.Proofs.YtgmppfpllogdcaaGreat
namespace Ins
open Go.RowKit So Dsk Rts Sto
def zS:Obj:= .cells #[.slice none 0 0,.int .i64 0,.bool false,.int .i64 0,.bool false,.int .i64 0,.slice none 0 0,.int .i64 0,.int .i64 0,.int .i64 0,.int .u32 0] 31
def sB (fv gv:Value) (S:St):Obj:= .cells #[fv,.int .i64 S.d.c,.bool S.d.a,.int .i64 S.d.l,.bool S.d.x,.int .i64 S.v,gv,.int .i64 S.x,.int .i64 S.s,.int .i64 S.z,.int .u32 S.c] 31
theorem zgN {S:St} {at_:Int} {L:List UInt8} (hB:Stb S) (hv:S.v<1152921504606846976) (ha:0<=at_/\at_<=1099511627776) (hL:L.length<=3000):Stb (Lg.instX S at_ L):=
 ⟨hB.d,⟨by have:=hB.v;show 0<=S.v+1;omega,by show S.v+1<=_;omega⟩,by show 1<=1000;omega,fun g hg=>by
  have hg':g∈[(⟨at_,0,0⟩:Rt.Sg)]:=hg;rw [List.mem_singleton] at hg';subst hg'
  exact ⟨⟨ha.1,by show at_<=_;omega⟩,⟨Int.le_refl 0,by show (0:Int)<=1152921504606846976;decide⟩,⟨Int.le_refl 0,by show (0:Int)<=1152921504606846976;decide⟩⟩,⟨by show 0<=at_;omega,by show at_<=_;omega⟩,⟨by show 0<=at_;omega,by show at_<=_;omega⟩,⟨Int.natCast_nonneg _,by show (L.length:Int)<=_;omega⟩,⟨Int.natCast_nonneg _,by have:=Lg.sum_lt L;show (Cp.sum 0 L:Int)<_;omega⟩⟩
theorem zgF (fv gv:Value) (S:St) (at_:Int) (s:ByteArray) (w:World) (hs:s.size<=3000) (b:Bool) (hb:b=true↔ ¬(at_<=S.x\/1099511627776<at_\/Fp.parse s.data.toList=none)):
 Calls Tryz.prog 26 #[zag fv gv S,.int .i64 at_,.string s] w fun e w'=>e= .returned (.bool b)/\Below w.heap.size w w':=by
 have PR:=zid fun W:World=>zjI s W (by omega);have Q0:=zid (heap_alloc_new w (.cells #[fv,.int .i64 S.d.c,.bool S.d.a,.int .i64 S.d.l,.bool S.d.x,.int .i64 S.v,gv,.int .i64 S.x,.int .i64 S.s,.int .i64 S.z,.int .u32 S.c] 31));have QB:=zid ((Below.refl w.heap.size w).alloc (Nat.le_refl _) (.cells #[fv,.int .i64 S.d.c,.bool S.d.a,.int .i64 S.d.l,.bool S.d.x,.int .i64 S.v,gv,.int .i64 S.x,.int .i64 S.s,.int .i64 S.z,.int .u32 S.c] 31));obtain ⟨⟨k0,k1,k2,k3,k4⟩,k5,k6,k7,k8,k9,k10⟩:=zab Q0.out;have HB:=zid hb;clear hb;unfold zag
 by_cases h1:at_<=S.x
 · obtain rfl:b=false:=by cases b with
    | false=>rfl
    | true=>exact absurd (.inl h1) (HB.out.1 rfl)
   have e1:decide (at_<=S.x)=true:=by simpa using h1
   clear HB h1 PR
   go_enter Tryz.func26,Tryz.ntmps26
   go_wp2_with fail;go_ret;exact ⟨rfl,QB.out⟩
 have e1:decide (at_<=S.x)=false:=by simpa using h1
 by_cases h2:1099511627776<at_
 · obtain rfl:b=false:=by cases b with
    | false=>rfl
    | true=>exact absurd (.inr (.inl h2)) (HB.out.1 rfl)
   have e2:decide (1099511627776<at_)=true:=by simpa using h2
   clear HB h1 h2 PR
   go_enter Tryz.func26,Tryz.ntmps26
   go_wp2_with fail;go_ret;exact ⟨rfl,QB.out⟩
 have e2:decide (1099511627776<at_)=false:=by simpa using h2
 have hbp:(Fp.parse s.data.toList).isSome=b:=by
  rcases hp:Fp.parse s.data.toList with _ | l
  · cases b with
    | false=>rfl
    | true=>exact absurd (.inr (.inr hp)) (HB.out.1 rfl)
  · cases b with
    | true=>rfl
    | false=>
     have:false=true:=HB.out.2 (fun h=>by rcases h with h | h | h<;>first | exact h1 h | exact h2 h | (rw [hp] at h;cases h))
     cases this
 clear HB h1 h2
 go_enter Tryz.func26,Tryz.ntmps26
 go_upto_region 3 with (fail);generalize World.alloc w _=w0 at Q0 QB k0 k1 k2 k3 k4 k5 k6 k7 k8 k9 k10 ⊢;clear k0 k1 k2 k3 k4 k5 k6 k7 k8 k9 k10;go_wp2_with fail;refine (PR.out _).mono ?_;rintro e w1 ⟨v,rfl,_,b1⟩;rw [hbp];have B1:=zid (QB.out.trans (b1.mono QB.out.size));clear b1;go_wp2_with fail;go_ret;exact ⟨rfl,B1.out⟩
def NewOut (w:World) (fv:Value) (R:St) (e:Ending) (w':World):Prop:=∃a n c,e= .returned (zag fv (.slice a n c) R)/\IsL Rts.SL w' (.slice a n c) R.g/\(∀j,j<w.heap.size->Sep (.slice a n c) j)/\Below w.heap.size w w'
section
variable {w W W5:World} {b:Nat} {fv gv:Value} {cs:List (Nat×Obj)} {fs:List (Value×List Dp.Fl)} {gs:List (Value×List Rt.Sg)} {x:Int} {o:Obj}
def sgO (x:Int):Obj:= .cells #[.int .i64 x,.int .i64 0,.int .i64 0] 63
theorem sg_one (W:World) (hx:0<=x/\x<=1099511627776):IsL Rts.SL (W.alloc (sgO x)) (.slice (some ⟨W.heap.size,0,none⟩) 1 1) [⟨x,0,0⟩]:=seg_new W x 0 0 ⟨⟨by omega,by omega⟩,⟨by decide,by decide⟩,⟨by decide,by decide⟩⟩
theorem zin {n k c j:Nat} (h:j<n):Sep (.slice (some ⟨n,0,none⟩) k c) j:=fun a k' c' e _=>by
 injection e with e _ _
 injection e with e
 rw [<-e];show n≠j;omega
theorem zes (h:Ms w b fv gv cs fs gs W) (hx:0<=x/\x<=1099511627776):Ms w b fv gv cs fs ((.slice (some ⟨W.heap.size,0,none⟩) 1 1,[⟨x,0,0⟩])::gs) (W.alloc (sgO x)):=h.fresh ((Below.refl _ _).alloc (Nat.le_refl _) _) (sg_one W hx) (fun _ hj=>zin hj)
theorem ms_al (h:Ms w b fv gv cs fs gs W) (o:Obj):Ms w b fv gv cs fs gs (W.alloc o):=h.keep ((Below.refl _ _).alloc (Nat.le_refl _) _)
theorem zk3 (h:Ms w b fv gv cs fs gs W):Ms w b fv gv cs fs gs W.drew:=h.keep (Below.refl _ _).drew
theorem ms_seg1 (h:Ms w b fv gv cs fs gs W) (hx:0<=x/\x<=1099511627776) (q:Below ((W.alloc (sgO x)).alloc o).drew.heap.size ((W.alloc (sgO x)).alloc o).drew W5):Ms w b fv gv cs fs ((.slice (some ⟨W.heap.size,0,none⟩) 1 1,[⟨x,0,0⟩])::gs) W5:=(zk3 (ms_al (zes h hx) o)).keep q
theorem ms_seg2 (h:Ms w b fv gv cs fs gs W) (hx:0<=x/\x<=1099511627776) (q:Below ((W.alloc o).alloc (sgO x)).drew.heap.size ((W.alloc o).alloc (sgO x)).drew W5):Ms w b fv gv cs fs ((.slice (some ⟨W.heap.size+1,0,none⟩) 1 1,[⟨x,0,0⟩])::gs) W5:=by
 have:=(zk3 (zes (ms_al h o) hx)).keep q
 rwa [World.size_alloc] at this
theorem ms_seg3 (h:Ms w b fv gv cs fs gs W) (q:Below (W.alloc o).drew.heap.size (W.alloc o).drew W5):Ms w b fv gv cs fs gs W5:=(zk3 (ms_al h o)).keep q
end
section
variable {W0 W W':World} {t:Nat}
theorem KT.start (h:t<W0.heap.size):(∀o,W0.cell? ⟨t,o,none⟩=W0.cell? ⟨t,o,none⟩)/\t<W0.heap.size:=⟨fun _=>rfl,h⟩
theorem KT.keep (h:(∀o,W.cell? ⟨t,o,none⟩=W0.cell? ⟨t,o,none⟩)/\t<W.heap.size) (b:Below W.heap.size W W'):(∀o,W'.cell? ⟨t,o,none⟩=W0.cell? ⟨t,o,none⟩)/\t<W'.heap.size:=⟨fun o=>(b.cell (p:=⟨t,o,none⟩) h.2).trans (h.1 o),Nat.lt_of_lt_of_le h.2 b.size⟩
theorem KT.dr (h:t<W0.heap.size):(∀o,W0.drew.cell? ⟨t,o,none⟩=W0.cell? ⟨t,o,none⟩)/\t<W0.drew.heap.size:=KT.keep (KT.start h) (Below.refl _ _).drew
theorem KT.al (h:(∀o,W.cell? ⟨t,o,none⟩=W0.cell? ⟨t,o,none⟩)/\t<W.heap.size) {o:Obj}:(∀i,(W.alloc o).cell? ⟨t,i,none⟩=W0.cell? ⟨t,i,none⟩)/\t<(W.alloc o).heap.size:=KT.keep h ((Below.refl _ _).alloc (Nat.le_refl _) _)
theorem KT.ad (h:(∀o,W.cell? ⟨t,o,none⟩=W0.cell? ⟨t,o,none⟩)/\t<W.heap.size) {o:Obj}:(∀i,(W.alloc o).drew.cell? ⟨t,i,none⟩=W0.cell? ⟨t,i,none⟩)/\t<(W.alloc o).drew.heap.size:=KT.keep h ((Below.refl _ _).alloc (Nat.le_refl _) _).drew
theorem KT.add (h:(∀o,W.drew.cell? ⟨t,o,none⟩=W0.cell? ⟨t,o,none⟩)/\t<W.drew.heap.size) {o:Obj}:(∀i,(W.alloc o).drew.cell? ⟨t,i,none⟩=W0.cell? ⟨t,i,none⟩)/\t<(W.alloc o).drew.heap.size:=KT.ad (W:=W) h
theorem KT.st1 (h:(∀o,W.cell? ⟨t,o,none⟩=W0.cell? ⟨t,o,none⟩)/\t<W.heap.size) {r i:Nat} (hr:r≠t) {x:Value}:(∀o,(W.setCell ⟨r,i,none⟩ x).cell? ⟨t,o,none⟩=W0.cell? ⟨t,o,none⟩)/\t<(W.setCell ⟨r,i,none⟩ x).heap.size:=⟨fun o=>by rw [World.cell?_setCell_other _ _ _ _ (fun e=>hr (by injection e))];exact h.1 o,by simpa using h.2⟩
theorem KT.st11 (h:(∀o,W.cell? ⟨t,o,none⟩=W0.cell? ⟨t,o,none⟩)/\t<W.heap.size) {r:Nat} (hr:r≠t) {x0 x1 x2 x3 x4 x5 x6 x7 x8 x9 x10:Value}:
 (∀o,(((((((((((W.setCell ⟨r,0,none⟩ x0).setCell ⟨r,1,none⟩ x1).setCell ⟨r,2,none⟩ x2).setCell ⟨r,3,none⟩ x3).setCell ⟨r,4,none⟩ x4).setCell ⟨r,5,none⟩ x5).setCell ⟨r,6,none⟩ x6).setCell ⟨r,7,none⟩ x7).setCell ⟨r,8,none⟩ x8).setCell ⟨r,9,none⟩ x9).setCell ⟨r,10,none⟩ x10).cell? ⟨t,o,none⟩=W0.cell? ⟨t,o,none⟩)/\
 t<(((((((((((W.setCell ⟨r,0,none⟩ x0).setCell ⟨r,1,none⟩ x1).setCell ⟨r,2,none⟩ x2).setCell ⟨r,3,none⟩ x3).setCell ⟨r,4,none⟩ x4).setCell ⟨r,5,none⟩ x5).setCell ⟨r,6,none⟩ x6).setCell ⟨r,7,none⟩ x7).setCell ⟨r,8,none⟩ x8).setCell ⟨r,9,none⟩ x9).setCell ⟨r,10,none⟩ x10).heap.size:=
 KT.st1 (KT.st1 (KT.st1 (KT.st1 (KT.st1 (KT.st1 (KT.st1 (KT.st1 (KT.st1 (KT.st1 (KT.st1 h hr) hr) hr) hr) hr) hr) hr) hr) hr) hr) hr
end
theorem zhU (fa ga:Option Addr) (fn fc gn gc:Nat) (S:St) (at_:Int) (s:ByteArray) (w:World) (hv:IsL FL w (.slice fa fn fc) S.d.f) (hg:IsL Rts.SL w (.slice ga gn gc) S.g) (hs:s.size<=3000) (hver: -9223372036854775808<=S.v/\S.v<1152921504606846976) (ha:0<=at_/\at_<=1099511627776):
 Calls Tryz.prog 27 #[zag (.slice fa fn fc) (.slice ga gn gc) S,.int .i64 at_,.string s] w (NewOut w (.slice fa fn fc) (Lg.instX S at_ s.data.toList)):=by
 have M0:=((Ms.start hv hg).alloc #[.slice fa fn fc,.int .i64 S.d.c,.bool S.d.a,.int .i64 S.d.l,.bool S.d.x,.int .i64 S.v,.slice ga gn gc,.int .i64 S.x,.int .i64 S.s,.int .i64 S.z,.int .u32 S.c] 31).alloc #[.slice none 0 0,.int .i64 0,.bool false,.int .i64 0,.bool false,.int .i64 0,.slice none 0 0,.int .i64 0,.int .i64 0,.int .i64 0,.int .u32 0] 31;rw [World.size_alloc] at M0;have HM0:=zid M0;obtain ⟨⟨k0,k1,k2,k3,k4⟩,k5,k6,k7,k8,k9,k10⟩:=zab (M0.at_ (t:=w.heap.size) (mcm mcs));have hvv:IntKind.i64.wrap (S.v+1)=S.v+1:=IntWalk.i64_in _ ⟨by omega,by omega⟩;have hsz:s.data.toList.length=s.size:=rfl
 have SUM:=zid (show ∀(W:World) (b:Nat),W.heap[b]?=some (.cells #[.string s] 9 (0,0))->Calls Tryz.prog 59 #[.slice (some ⟨b,0,none⟩) 1 1] W fun e w'=>e= .returned (.int .u32 (Cp.sum 0 s.data.toList:Nat))/\Below W.heap.size W w' from fun W b hb=>by
  have h:=zkf (.slice (some ⟨b,0,none⟩) 1 1) [s] W (by
   refine ⟨_,1,rfl,by show 1<=maxLen;unfold maxLen;omega,fun x hx=>by rw [List.mem_singleton] at hx;subst hx;unfold maxLen;omega,.inr ⟨b,0,rfl,fun i hi=>?_⟩⟩
   obtain rfl:i=0:=by simpa using hi
   exact (zaE hb).1)
  rw [show cat [s]=s.data.toList from by unfold cat;simp] at h
  exact h)
 have HX:=zid (show Lg.instX S at_ s.data.toList=⟨S.d,S.v+1,[⟨at_,0,0⟩],at_,at_,(s.data.toList.length:Int),(Cp.sum 0 s.data.toList:Int)⟩ from rfl);obtain ⟨q,hq⟩:∃q:Nat,Cp.sum 0 s.data.toList=q:=⟨_,rfl⟩;rw [hq,hsz] at HX;rw [hq] at SUM;rw [HX.out];have HV:=zid hver;have HA:=zid ha;clear hv hg hver ha M0 hq HX hsz;unfold zag
 go_enter Tryz.func27,Tryz.ntmps27
 go_upto_region 1 with (fail);generalize World.alloc (World.alloc w _) _=W0 at HM0 k0 k1 k2 k3 k4 k5 k6 k7 k8 k9 k10 ⊢;clear k0 k1 k2 k3 k4 k5 k6 k7 k8 k9 k10;obtain ⟨⟨k0,k1,k2,k3,k4⟩,k5,k6,k7,k8,k9,k10⟩:=zab (HM0.out.at_ (t:=w.heap.size) (mcm mcs));have hl0:=HM0.out.lt (t:=w.heap.size) (mcm mcs);have hl1:=HM0.out.lt (t:=w.heap.size+1) mcs
 have hne:w.heap.size+1≠w.heap.size:=by omega
 go_region_held3 (fun W=>(∀o,W.cell? ⟨w.heap.size,o,none⟩=W0.cell? ⟨w.heap.size,o,none⟩)/\w.heap.size<W.heap.size) (first | with_reducible assumption | with_reducible exact KT.dr hl0 | with_reducible exact KT.ad (KT.start hl0) | with_reducible exact KT.al (by assumption) | with_reducible exact KT.ad (by assumption) | with_reducible exact KT.add (by assumption) | with_reducible exact KT.st11 (by assumption) hne | with_reducible exact KT.keep (by assumption) (Below.refl _ _).drew | with_reducible exact KT.keep (by assumption) (by assumption)) (first | (go_at_call 59;refine (SUM.out _ _ (by first | exact heap_alloc_new _ _ | exact zlQ _ _ _ _ | exact zlR _ _ _ _)).mono ?_;rintro e w5 ⟨rfl,b5⟩;have s5:=KT.keep (by assumption) b5;first | (have M5:=zid (ms_seg1 HM0.out HA.out b5);obtain ⟨⟨q0,q1,q2,q3,q4⟩,q5,q6,q7,q8,q9,q10⟩:=zab (M5.out.at_ (t:=w.heap.size+1) mcs);have qf:=zaf (M5.out.at_ (t:=w.heap.size+1) mcs);clear b5) | (have M5:=zid (ms_seg2 HM0.out HA.out b5);obtain ⟨⟨q0,q1,q2,q3,q4⟩,q5,q6,q7,q8,q9,q10⟩:=zab (M5.out.at_ (t:=w.heap.size+1) mcs);have qf:=zaf (M5.out.at_ (t:=w.heap.size+1) mcs);clear b5) | (have M5:=zid (ms_seg3 HM0.out b5);have M6':=zes M5.out HA.out;unfold sgO at M6';have M6:=zid M6';clear M6';obtain ⟨⟨q0,q1,q2,q3,q4⟩,q5,q6,q7,q8,q9,q10⟩:=zab (M5.out.at_ (t:=w.heap.size+1) mcs);have qf:=zaf (M5.out.at_ (t:=w.heap.size+1) mcs);obtain ⟨⟨y0,y1,y2,y3,y4⟩,y5,y6,y7,y8,y9,y10⟩:=zab (M6.out.at_ (t:=w.heap.size+1) mcs);have yf:=zaf (M6.out.at_ (t:=w.heap.size+1) mcs);clear b5)))
 · have hlt5:=M5.out.lt (t:=w.heap.size+1) mcs
   obtain ⟨Z,hZ,MZ⟩:=M5.out.lay11 (t:=w.heap.size+1) (cs':=[(w.heap.size+1,.cells #[.slice fa fn fc,.int .i64 S.d.c,.bool S.d.a,.int .i64 S.d.l,.bool S.d.x,.int .i64 (S.v+1),.slice (some ⟨W0.heap.size,0,none⟩) 1 1,.int .i64 at_,.int .i64 at_,.int .i64 (s.size:Int),.int .u32 (q:Int)] 31)]) mcs (.slice fa fn fc) (.int .i64 S.d.c) (.bool S.d.a) (.int .i64 S.d.l) (.bool S.d.x) (.int .i64 (S.v+1)) (.slice (some ⟨W0.heap.size,0,none⟩) 1 1) (.int .i64 at_) (.int .i64 at_) (.int .i64 (s.size:Int)) (.int .u32 (q:Int)) (fun p hp=> .inl (List.mem_singleton.1 hp))
   have HZ:=zid hZ;have HMZ:=zid MZ;have HSEP:=zid (show ∀j,j<w.heap.size->Sep (.slice (some ⟨W0.heap.size,0,none⟩) 1 1) j from fun j hj=>zin (by omega));clear hZ MZ k0 k1 k2 k3 k4 k5 k6 k7 k8 k9 k10 q0 q1 q2 q3 q4 q5 q6 q7 q8 q9 q10 qf hl0 hl1 hlt5 hne;go_wp2_with fail;rw [HZ.out];obtain ⟨⟨z0,z1,z2,z3,z4⟩,z5,z6,z7,z8,z9,z10⟩:=zab (HMZ.out.at_ mcs);refine bodyPost_ret (v:= .agg #[.slice fa fn fc,.int .i64 S.d.c,.bool S.d.a,.int .i64 S.d.l,.bool S.d.x,.int .i64 (S.v+1),.slice (some ⟨W0.heap.size,0,none⟩) 1 1,.int .i64 at_,.int .i64 at_,.int .i64 (s.size:Int),.int .u32 (q:Int)]) (by simp [results,Tryz.results27,go_sem,z0,z1,z2,z3,z4,z5,z6,z7,z8,z9,z10]) rfl ?_;exact ⟨_,_,_,rfl,HMZ.out.sl mcs,HSEP.out,HMZ.out.w⟩
 · have hlt5:=M5.out.lt (t:=w.heap.size+1) mcs
   obtain ⟨Z,hZ,MZ⟩:=M5.out.lay11 (t:=w.heap.size+1) (cs':=[(w.heap.size+1,.cells #[.slice fa fn fc,.int .i64 S.d.c,.bool S.d.a,.int .i64 S.d.l,.bool S.d.x,.int .i64 (S.v+1),.slice (some ⟨W0.heap.size+1,0,none⟩) 1 1,.int .i64 at_,.int .i64 at_,.int .i64 (s.size:Int),.int .u32 (q:Int)] 31)]) mcs (.slice fa fn fc) (.int .i64 S.d.c) (.bool S.d.a) (.int .i64 S.d.l) (.bool S.d.x) (.int .i64 (S.v+1)) (.slice (some ⟨W0.heap.size+1,0,none⟩) 1 1) (.int .i64 at_) (.int .i64 at_) (.int .i64 (s.size:Int)) (.int .u32 (q:Int)) (fun p hp=> .inl (List.mem_singleton.1 hp))
   have HZ:=zid hZ;have HMZ:=zid MZ;have HSEP:=zid (show ∀j,j<w.heap.size->Sep (.slice (some ⟨W0.heap.size+1,0,none⟩) 1 1) j from fun j hj=>zin (by omega));clear hZ MZ k0 k1 k2 k3 k4 k5 k6 k7 k8 k9 k10 q0 q1 q2 q3 q4 q5 q6 q7 q8 q9 q10 qf hl0 hl1 hlt5 hne;go_wp2_with fail;rw [HZ.out];obtain ⟨⟨z0,z1,z2,z3,z4⟩,z5,z6,z7,z8,z9,z10⟩:=zab (HMZ.out.at_ mcs);refine bodyPost_ret (v:= .agg #[.slice fa fn fc,.int .i64 S.d.c,.bool S.d.a,.int .i64 S.d.l,.bool S.d.x,.int .i64 (S.v+1),.slice (some ⟨W0.heap.size+1,0,none⟩) 1 1,.int .i64 at_,.int .i64 at_,.int .i64 (s.size:Int),.int .u32 (q:Int)]) (by simp [results,Tryz.results27,go_sem,z0,z1,z2,z3,z4,z5,z6,z7,z8,z9,z10]) rfl ?_;exact ⟨_,_,_,rfl,HMZ.out.sl mcs,HSEP.out,HMZ.out.w⟩
 · have hlt5:=M5.out.lt (t:=w.heap.size+1) mcs
   obtain ⟨Z,hZ,MZ⟩:=M6.out.lay11 (t:=w.heap.size+1) (cs':=[(w.heap.size+1,.cells #[.slice fa fn fc,.int .i64 S.d.c,.bool S.d.a,.int .i64 S.d.l,.bool S.d.x,.int .i64 (S.v+1),.slice (some ⟨w5.heap.size,0,none⟩) 1 1,.int .i64 at_,.int .i64 at_,.int .i64 (s.size:Int),.int .u32 (q:Int)] 31)]) mcs (.slice fa fn fc) (.int .i64 S.d.c) (.bool S.d.a) (.int .i64 S.d.l) (.bool S.d.x) (.int .i64 (S.v+1)) (.slice (some ⟨w5.heap.size,0,none⟩) 1 1) (.int .i64 at_) (.int .i64 at_) (.int .i64 (s.size:Int)) (.int .u32 (q:Int)) (fun p hp=> .inl (List.mem_singleton.1 hp))
   have HZ:=zid hZ;have HMZ:=zid MZ;have HSEP:=zid (show ∀j,j<w.heap.size->Sep (.slice (some ⟨w5.heap.size,0,none⟩) 1 1) j from fun j hj=>zin (by omega));clear hZ MZ k0 k1 k2 k3 k4 k5 k6 k7 k8 k9 k10 q0 q1 q2 q3 q4 q5 q6 q7 q8 q9 q10 qf hl0 hl1 hlt5 hne;go_wp2_with fail;rw [HZ.out];obtain ⟨⟨z0,z1,z2,z3,z4⟩,z5,z6,z7,z8,z9,z10⟩:=zab (HMZ.out.at_ mcs);refine bodyPost_ret (v:= .agg #[.slice fa fn fc,.int .i64 S.d.c,.bool S.d.a,.int .i64 S.d.l,.bool S.d.x,.int .i64 (S.v+1),.slice (some ⟨w5.heap.size,0,none⟩) 1 1,.int .i64 at_,.int .i64 at_,.int .i64 (s.size:Int),.int .u32 (q:Int)]) (by simp [results,Tryz.results27,go_sem,z0,z1,z2,z3,z4,z5,z6,z7,z8,z9,z10]) rfl ?_;exact ⟨_,_,_,rfl,HMZ.out.sl mcs,HSEP.out,HMZ.out.w⟩
def fnV (x:Nat×Array Value):Value:= .func (.func x.1) #[] x.2
def Chg (w:World) (x:Nat×Array Value) (g:Dp.Dk->Dp.Dk×Int):Prop:=
 (∀args W,(callFunc x.1 args).run Tryz.prog W= .ok (.enter x.1 args) W)/\
 ∀W,Below w.heap.size w W->∀(a:Option Addr) (n c:Nat) (D:Dp.Dk) (k:Nat),IsL FL W (.slice a n c) D.f->Bd D k->k<=100000->Calls Tryz.prog x.1 (#[zac (.slice a n c) D]++x.2) W (zaL W (.slice a n c) (g D))
theorem Chg.keep {w W:World} {x:Nat×Array Value} {g:Dp.Dk->Dp.Dk×Int} (h:Chg w x g) (b:Below w.heap.size w W):Chg W x g:=⟨h.1,fun W' hb=>h.2 W' (b.trans (hb.mono b.size))⟩
def zlT (w:World) (g:Dp.Dk->Dp.Dk×Int) (e:Ending) (w':World):Prop:=∃N c,e= .returned (.func (.func N) #[] c)/\Chg w' (N,c) g/\Below w.heap.size w w'
theorem zbt (W:World) (o:Obj):Below W.heap.size W (W.alloc o):=(Below.refl _ _).alloc (Nat.le_refl _) _
theorem created1 (fa:Option Addr) (fn fc:Nat) (D:Dp.Dk) (n:ByteArray) (b:Nat) (R:Dp.Dk×Int) (w:World) (hv:IsL FL w (.slice fa fn fc) D.f) (hb:w.heap[b]?=some (.cells #[.string n] 9 (0,0)))
 (C:∀W,Below w.heap.size w W->Calls Tryz.prog 97 #[zac (.slice fa fn fc) D,.string n] W (zaL W (.slice fa fn fc) R)):
 Calls Tryz.prog 96 #[zac (.slice fa fn fc) D,.pointer (some ⟨b,0,none⟩)] w (zaL w (.slice fa fn fc) R):=by
 obtain ⟨g0,g1,gb,gs⟩:=zay w #[.slice fa fn fc,.int .i64 D.c,.bool D.a,.int .i64 D.l,.bool D.x] #[.slice none 0 0,.int .i64 0,.bool false,.int .i64 0,.bool false] 27 27;have HG:=zid g1;have HB:=zid gb;have HS:=zid (Array.getElem?_eq_some_iff.1 g1).1;have SP:=zid (show Sep (.slice fa fn fc) (w.heap.size+1) from IsL.sep_new hv (by omega));have HN:=(zaE (hkeep hb gb)).1;have HC:=zid C;unfold zac at HC ⊢;clear hv hb C g0 g1 gb gs
 go_enter Tryz.func96,Tryz.ntmps96
 go_wp2_with fail;generalize World.alloc (World.alloc w _) _=w0 at HG HB HS HN ⊢;refine (HC.out _ HB.out).mono ?_;rintro e w1 ⟨ga,gn,gc,rfl,kk⟩;obtain ⟨q0,q1,q2,q3,q4⟩:=zaa (hkeep HG.out kk.w);obtain ⟨qf0,qf1,qf2,qf3,qf4⟩:=zad (hkeep HG.out kk.w);have LY:=zid (zb8 HB.out kk (t:=w.heap.size+1) (by omega) HS.out SP.out (.slice ga gn gc) (.int .i64 R.1.c) (.bool R.1.a) (.int .i64 R.1.l) (.bool R.1.x));clear kk;unfold zac;go_wp2_with fail;refine bodyPost_ret (v:= .tuple #[.agg #[.slice ga gn gc,.int .i64 R.1.c,.bool R.1.a,.int .i64 R.1.l,.bool R.1.x],.int .i64 R.2]) (by simp [results,Tryz.results96,go_sem,q0,q1,q2,q3,q4]) rfl ?_;exact ⟨_,_,_,rfl,LY.out⟩
theorem deleted1 (fa:Option Addr) (fn fc:Nat) (D:Dp.Dk) (n:ByteArray) (b:Nat) (R:Dp.Dk×Int) (w:World) (hv:IsL FL w (.slice fa fn fc) D.f) (hb:w.heap[b]?=some (.cells #[.string n] 9 (0,0)))
 (C:∀W,Below w.heap.size w W->Calls Tryz.prog 99 #[zac (.slice fa fn fc) D,.string n] W (zaL W (.slice fa fn fc) R)):
 Calls Tryz.prog 98 #[zac (.slice fa fn fc) D,.pointer (some ⟨b,0,none⟩)] w (zaL w (.slice fa fn fc) R):=by
 obtain ⟨g0,g1,gb,gs⟩:=zay w #[.slice fa fn fc,.int .i64 D.c,.bool D.a,.int .i64 D.l,.bool D.x] #[.slice none 0 0,.int .i64 0,.bool false,.int .i64 0,.bool false] 27 27;have HG:=zid g1;have HB:=zid gb;have HS:=zid (Array.getElem?_eq_some_iff.1 g1).1;have SP:=zid (show Sep (.slice fa fn fc) (w.heap.size+1) from IsL.sep_new hv (by omega));have HN:=(zaE (hkeep hb gb)).1;have HC:=zid C;unfold zac at HC ⊢;clear hv hb C g0 g1 gb gs
 go_enter Tryz.func98,Tryz.ntmps98
 go_wp2_with fail;generalize World.alloc (World.alloc w _) _=w0 at HG HB HS HN ⊢;refine (HC.out _ HB.out).mono ?_;rintro e w1 ⟨ga,gn,gc,rfl,kk⟩;obtain ⟨q0,q1,q2,q3,q4⟩:=zaa (hkeep HG.out kk.w);obtain ⟨qf0,qf1,qf2,qf3,qf4⟩:=zad (hkeep HG.out kk.w);have LY:=zid (zb8 HB.out kk (t:=w.heap.size+1) (by omega) HS.out SP.out (.slice ga gn gc) (.int .i64 R.1.c) (.bool R.1.a) (.int .i64 R.1.l) (.bool R.1.x));clear kk;unfold zac;go_wp2_with fail;refine bodyPost_ret (v:= .tuple #[.agg #[.slice ga gn gc,.int .i64 R.1.c,.bool R.1.a,.int .i64 R.1.l,.bool R.1.x],.int .i64 R.2]) (by simp [results,Tryz.results98,go_sem,q0,q1,q2,q3,q4]) rfl ?_;exact ⟨_,_,_,rfl,LY.out⟩
theorem synced1 (fa:Option Addr) (fn fc:Nat) (D:Dp.Dk) (n:ByteArray) (b:Nat) (R:Dp.Dk×Int) (w:World) (hv:IsL FL w (.slice fa fn fc) D.f) (hb:w.heap[b]?=some (.cells #[.string n] 9 (0,0)))
 (C:∀W,Below w.heap.size w W->Calls Tryz.prog 103 #[zac (.slice fa fn fc) D,.string n] W (zaL W (.slice fa fn fc) R)):
 Calls Tryz.prog 102 #[zac (.slice fa fn fc) D,.pointer (some ⟨b,0,none⟩)] w (zaL w (.slice fa fn fc) R):=by
 obtain ⟨g0,g1,gb,gs⟩:=zay w #[.slice fa fn fc,.int .i64 D.c,.bool D.a,.int .i64 D.l,.bool D.x] #[.slice none 0 0,.int .i64 0,.bool false,.int .i64 0,.bool false] 27 27;have HG:=zid g1;have HB:=zid gb;have HS:=zid (Array.getElem?_eq_some_iff.1 g1).1;have SP:=zid (show Sep (.slice fa fn fc) (w.heap.size+1) from IsL.sep_new hv (by omega));have HN:=(zaE (hkeep hb gb)).1;have HC:=zid C;unfold zac at HC ⊢;clear hv hb C g0 g1 gb gs
 go_enter Tryz.func102,Tryz.ntmps102
 go_wp2_with fail;generalize World.alloc (World.alloc w _) _=w0 at HG HB HS HN ⊢;refine (HC.out _ HB.out).mono ?_;rintro e w1 ⟨ga,gn,gc,rfl,kk⟩;obtain ⟨q0,q1,q2,q3,q4⟩:=zaa (hkeep HG.out kk.w);obtain ⟨qf0,qf1,qf2,qf3,qf4⟩:=zad (hkeep HG.out kk.w);have LY:=zid (zb8 HB.out kk (t:=w.heap.size+1) (by omega) HS.out SP.out (.slice ga gn gc) (.int .i64 R.1.c) (.bool R.1.a) (.int .i64 R.1.l) (.bool R.1.x));clear kk;unfold zac;go_wp2_with fail;refine bodyPost_ret (v:= .tuple #[.agg #[.slice ga gn gc,.int .i64 R.1.c,.bool R.1.a,.int .i64 R.1.l,.bool R.1.x],.int .i64 R.2]) (by simp [results,Tryz.results102,go_sem,q0,q1,q2,q3,q4]) rfl ?_;exact ⟨_,_,_,rfl,LY.out⟩
theorem appended1 (fa:Option Addr) (fn fc:Nat) (D:Dp.Dk) (n s:ByteArray) (b b2:Nat) (R:Dp.Dk×Int) (w:World) (hv:IsL FL w (.slice fa fn fc) D.f) (hb:w.heap[b]?=some (.cells #[.string n] 9 (0,0))) (hb2:w.heap[b2]?=some (.cells #[.string s] 9 (0,0)))
 (C:∀W,Below w.heap.size w W->Calls Tryz.prog 101 #[zac (.slice fa fn fc) D,.string n,.string s] W (zaL W (.slice fa fn fc) R)):
 Calls Tryz.prog 100 #[zac (.slice fa fn fc) D,.pointer (some ⟨b,0,none⟩),.pointer (some ⟨b2,0,none⟩)] w (zaL w (.slice fa fn fc) R):=by
 obtain ⟨g0,g1,gb,gs⟩:=zay w #[.slice fa fn fc,.int .i64 D.c,.bool D.a,.int .i64 D.l,.bool D.x] #[.slice none 0 0,.int .i64 0,.bool false,.int .i64 0,.bool false] 27 27;have HG:=zid g1;have HB:=zid gb;have HS:=zid (Array.getElem?_eq_some_iff.1 g1).1;have SP:=zid (show Sep (.slice fa fn fc) (w.heap.size+1) from IsL.sep_new hv (by omega));have HN:=(zaE (hkeep hb gb)).1;have HN2:=(zaE (hkeep hb2 gb)).1;have HC:=zid C;unfold zac at HC ⊢;clear hv hb hb2 C g0 g1 gb gs
 go_enter Tryz.func100,Tryz.ntmps100
 go_wp2_with fail;generalize World.alloc (World.alloc w _) _=w0 at HG HB HS HN HN2 ⊢;refine (HC.out _ HB.out).mono ?_;rintro e w1 ⟨ga,gn,gc,rfl,kk⟩;obtain ⟨q0,q1,q2,q3,q4⟩:=zaa (hkeep HG.out kk.w);obtain ⟨qf0,qf1,qf2,qf3,qf4⟩:=zad (hkeep HG.out kk.w);have LY:=zid (zb8 HB.out kk (t:=w.heap.size+1) (by omega) HS.out SP.out (.slice ga gn gc) (.int .i64 R.1.c) (.bool R.1.a) (.int .i64 R.1.l) (.bool R.1.x));clear kk;unfold zac;go_wp2_with fail;refine bodyPost_ret (v:= .tuple #[.agg #[.slice ga gn gc,.int .i64 R.1.c,.bool R.1.a,.int .i64 R.1.l,.bool R.1.x],.int .i64 R.2]) (by simp [results,Tryz.results100,go_sem,q0,q1,q2,q3,q4]) rfl ?_;exact ⟨_,_,_,rfl,LY.out⟩
theorem swapped1 (fa:Option Addr) (fn fc:Nat) (D:Dp.Dk) (ma:Option Addr) (mn mc:Nat) (M:Qm.Mn) (b k:Nat) (w:World) (hv:IsL FL w (.slice fa fn fc) D.f) (hb:w.heap[b]?=some (.cells #[.int .i64 M.v,.slice ma mn mc,.int .i64 M.z,.int .u32 M.c] 76 (0,0)))
 (hm:IsL Mfs.IL w (.slice ma mn mc) M.l) (hM:Mfs.MnB M) (hS:Bd D k) (hk:k<=100000):
 Calls Tryz.prog 104 #[zac (.slice fa fn fc) D,.pointer (some ⟨b,0,none⟩)] w (zaL w (.slice fa fn fc) (swap D M)):=by
 obtain ⟨g0,g1,gb,gs⟩:=zay w #[.slice fa fn fc,.int .i64 D.c,.bool D.a,.int .i64 D.l,.bool D.x] #[.slice none 0 0,.int .i64 0,.bool false,.int .i64 0,.bool false] 27 27;have HG:=zid g1;have HB:=zid gb;have HS:=zid (Array.getElem?_eq_some_iff.1 g1).1;have SP:=zid (show Sep (.slice fa fn fc) (w.heap.size+1) from IsL.sep_new hv (by omega));obtain ⟨x0,x1,x2,x3⟩:=Mfs.cells4 (hkeep hb gb);have RW:=fun (W:World) (k':Below w.heap.size w W)=>zi8 fa fn fc D ma mn mc M W k (hv.keep k') (hm.keep k') hS hk hM;obtain ⟨R,hR⟩:∃R,swap D M=R:=⟨_,rfl⟩;rw [hR] at RW ⊢;unfold zac Mfs.mnVal at RW;unfold zac;replace RW:=zid RW;clear hv hb hm hM hS g0 g1 gb gs hR
 go_enter Tryz.func104,Tryz.ntmps104
 go_wp2_with fail;generalize World.alloc (World.alloc w _) _=w0 at HG HB HS x0 x1 x2 x3 ⊢;refine (RW.out _ HB.out).mono ?_;rintro e w1 ⟨ga,gn,gc,rfl,kk⟩;obtain ⟨q0,q1,q2,q3,q4⟩:=zaa (hkeep HG.out kk.w);obtain ⟨qf0,qf1,qf2,qf3,qf4⟩:=zad (hkeep HG.out kk.w);have LY:=zid (zb8 HB.out kk (t:=w.heap.size+1) (by omega) HS.out SP.out (.slice ga gn gc) (.int .i64 R.1.c) (.bool R.1.a) (.int .i64 R.1.l) (.bool R.1.x));clear kk;unfold zac;go_wp2_with fail;refine bodyPost_ret (v:= .tuple #[.agg #[.slice ga gn gc,.int .i64 R.1.c,.bool R.1.a,.int .i64 R.1.l,.bool R.1.x],.int .i64 R.2]) (by simp [results,Tryz.results104,go_sem,q0,q1,q2,q3,q4]) rfl ?_;exact ⟨_,_,_,rfl,LY.out⟩
section
variable {W:World} {n s:ByteArray} {b b2:Nat}
theorem zh3 (hn:n.size<=3000) (hb:W.heap[b]?=some (.cells #[.string n] 9 (0,0))):Chg W (96,#[.pointer (some ⟨b,0,none⟩)]) (fun D=>Dp.create D n):=
 ⟨enters Tryz.func96 (by kernel_rfl) (by rfl),fun W' k' a m c D k hv h hk=>created1 a m c D n b _ W' hv (hkeep hb k') fun W'' k''=>ziQ h (by omega) n hn (hv.keep k'')⟩
theorem zeG (hb:W.heap[b]?=some (.cells #[.string n] 9 (0,0))):Chg W (98,#[.pointer (some ⟨b,0,none⟩)]) (fun D=>Dp.delete D n):=
 ⟨enters Tryz.func98 (by kernel_rfl) (by rfl),fun W' k' a m c D k hv h hk=>deleted1 a m c D n b _ W' hv (hkeep hb k') fun W'' k''=>zfK h (by omega) n (hv.keep k'')⟩
theorem zjQ (hb:W.heap[b]?=some (.cells #[.string n] 9 (0,0))):Chg W (102,#[.pointer (some ⟨b,0,none⟩)]) (fun D=>Dp.sync D n):=
 ⟨enters Tryz.func102 (by kernel_rfl) (by rfl),fun W' k' a m c D k hv h hk=>synced1 a m c D n b _ W' hv (hkeep hb k') fun W'' k''=>sync_s h (by omega) n (hv.keep k'')⟩
theorem zg1 (hs:s.size<=3000) (hb:W.heap[b]?=some (.cells #[.string n] 9 (0,0))) (hb2:W.heap[b2]?=some (.cells #[.string s] 9 (0,0))):Chg W (100,#[.pointer (some ⟨b,0,none⟩),.pointer (some ⟨b2,0,none⟩)]) (fun D=>Dp.append D n s):=
 ⟨enters Tryz.func100 (by kernel_rfl) (by rfl),fun W' k' a m c D k hv h hk=>appended1 a m c D n s b b2 _ W' hv (hkeep hb k') (hkeep hb2 k') fun W'' k''=>ziV h (by omega) n s hs (hv.keep k'')⟩
theorem zh2 {ma:Option Addr} {mn mc:Nat} {M:Qm.Mn} (hM:Mfs.MnB M) (hb:W.heap[b]?=some (.cells #[.int .i64 M.v,.slice ma mn mc,.int .i64 M.z,.int .u32 M.c] 76 (0,0))) (hm:IsL Mfs.IL W (.slice ma mn mc) M.l):Chg W (104,#[.pointer (some ⟨b,0,none⟩)]) (fun D=>swap D M):=
 ⟨enters Tryz.func104 (by kernel_rfl) (by rfl),fun W' k' a m c D k hv h hk=>swapped1 a m c D ma mn mc M b k W' hv (hkeep hb k') (hm.keep k') hM h hk⟩
end
theorem created_any (n:ByteArray) (w:World) (hn:n.size<=3000):Calls Tryz.prog 64 #[.string n] w (zlT w (fun D=>Dp.create D n)):=by
 have hmf:=Dsk.made_func;have H:=zid (zh3 hn (heap_alloc_new w (.cells #[.string n] 9)))
 go_enter Tryz.func64,Tryz.ntmps64
 go_wp2_with fail;go_ret;exact ⟨_,_,rfl,H.out,zbt w _⟩
theorem deleted_any (n:ByteArray) (w:World):Calls Tryz.prog 65 #[.string n] w fun e w'=>e= .returned (.func (.func 98) #[] #[.pointer (some ⟨w.heap.size,0,none⟩)])/\w'=w.alloc (.cells #[.string n] 9):=by
 have hmf:=Dsk.made_func
 go_enter Tryz.func65,Tryz.ntmps65
 go_wp2_with fail;go_ret;exact ⟨rfl,rfl⟩
theorem zfe (n:ByteArray) (w:World):Calls Tryz.prog 65 #[.string n] w (zlT w (fun D=>Dp.delete D n)):=
 (deleted_any n w).mono fun e w' ⟨h1,h2⟩=>by
  subst h1 h2;exact ⟨_,_,rfl,zeG (heap_alloc_new w _),zbt w _⟩
theorem synced_any (n:ByteArray) (w:World):Calls Tryz.prog 67 #[.string n] w (zlT w (fun D=>Dp.sync D n)):=by
 have hmf:=Dsk.made_func;have H:=zid (zjQ (heap_alloc_new w (.cells #[.string n] 9)))
 go_enter Tryz.func67,Tryz.ntmps67
 go_wp2_with fail;go_ret;exact ⟨_,_,rfl,H.out,zbt w _⟩
theorem appended_any (n s:ByteArray) (w:World) (hs:s.size<=3000):Calls Tryz.prog 66 #[.string n,.string s] w (zlT w (fun D=>Dp.append D n s)):=by
 have hmf:=Dsk.made_func;have H:=zid (fun (W:World) (h1:W.heap[w.heap.size]?=some (.cells #[.string n] 9 (0,0))) (h2:W.heap[w.heap.size+1]?=some (.cells #[.string s] 9 (0,0)))=>zg1 hs h1 h2);obtain ⟨g0,g1,gb,gs⟩:=zay w #[.string n] #[.string s] 9 9;have G:=zid (And.intro (H.out _ g0 g1) gb);clear g0 g1 gb gs H
 go_enter Tryz.func66,Tryz.ntmps66
 go_wp2_with fail;go_ret;exact ⟨_,_,rfl,by simpa using G.out.1,G.out.2⟩
theorem zhh (ma:Option Addr) (mn mc:Nat) (M:Qm.Mn) (w:World) (hM:Mfs.MnB M) (hm:IsL Mfs.IL w (.slice ma mn mc) M.l):Calls Tryz.prog 68 #[Mfs.mnVal ma mn mc M] w (zlT w (fun D=>swap D M)):=by
 have hmf:=Dsk.made_func;have H:=zid (zh2 hM (heap_alloc_new w (.cells #[.int .i64 M.v,.slice ma mn mc,.int .i64 M.z,.int .u32 M.c] 76)) (hm.keep (zbt w _)));clear hm hM;unfold Mfs.mnVal
 go_enter Tryz.func68,Tryz.ntmps68
 go_wp2_with fail;go_ret;exact ⟨_,_,rfl,H.out,zbt w _⟩
end Ins
end Go.Proofs.YtgmppfpllogdcaaGreat

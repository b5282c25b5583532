/-
  Parts of what the laws of this seat stand on:StoClo,StoTake.
-/
import Derived.Test.YtgmppfpllogdcaaGreatBi1
import Derived.Deep.RegionHeld3
import Derived.Test.YtgmppfpllogdcaaGreatBi11
import Derived.Test.YtgmppfpllogdcaaGreatBi18
import Derived.Test.YtgmppfpllogdcaaGreatBi22
set_option maxRecDepth 100000
set_option maxHeartbeats 6400000
namespace Go.Proofs.YtgmppfpllogdcaaGreat
namespace Sto
open Go.RowKit So Dsk Rts
theorem dk_s {w:World} {fv:Value} {l0:List Dp.Fl} {R:Dp.Dk×Int} {e:Ending} {w':World} (h:zhd w fv l0 R e w') (hv:IsL FL w fv l0) (hS:Sm R.1):zaL w fv R e w':=by
 obtain ⟨v,rfl,h⟩:=h
 obtain ⟨a,n,c,rfl⟩:∃a n c,v= .slice a n c:=by
  rcases h.k with ⟨e1,_⟩ | k
  · obtain ⟨a,c,h,_⟩:=hv;exact ⟨a,_,c,e1.trans h⟩
  · exact Dsk.own_slice k
 refine ⟨a,n,c,rfl,?_,?_,h.w⟩
 · rcases h.k with ⟨e1,e2⟩ | hk
   · rw [e1,e2];exact hv.keep h.w
   · exact hk.is (by have:=hS.n;unfold maxLen;omega) hS.flb
 · intro t ht hs
   rcases h.k with ⟨e1,_⟩ | hk
   · rw [e1];exact hs
   · exact zcP hk ht
section
variable {D:Dp.Dk} {k:Nat} {fv:Value} {w:World}
theorem ziQ (h:Bd D k) (hk:k<=200000) (n:ByteArray) (hn:n.size<=3000) (hv:IsL FL w fv D.f):Calls Tryz.prog 97 #[zac fv D,.string n] w (zaL w fv (Dp.create D n)):=
 (zjO fv D n w hv (zaM h (by omega)) (by omega)).mono fun _ _ r=>dk_s r hv (zaM (zas h n) (by omega))
theorem ziV (h:Bd D k) (hk:k<=200000) (n s:ByteArray) (hs:s.size<=3000) (hv:IsL FL w fv D.f):Calls Tryz.prog 101 #[zac fv D,.string n,.string s] w (zaL w fv (Dp.append D n s)):=
 (zjY fv D n s w hv (zaM h (by omega)) (by omega)).mono fun _ _ r=>dk_s r hv (zaM (zbb h n hs) (by omega))
theorem sync_s (h:Bd D k) (hk:k<=200000) (n:ByteArray) (hv:IsL FL w fv D.f):Calls Tryz.prog 103 #[zac fv D,.string n] w (zaL w fv (Dp.sync D n)):=
 (sync_any fv D n w hv (zaM h (by omega))).mono fun _ _ r=>dk_s r hv (zaM (zbs h n) (by omega))
theorem rename_s (h:Bd D k) (hk:k<=200000) (n m:ByteArray) (hm:m.size<=3000) (hv:IsL FL w fv D.f):Calls Tryz.prog 153 #[zac fv D,.string n,.string m] w (zaL w fv (Dp.rename D n m)):=
 (zjs fv D n m w hv (zaM h (by omega)) (by omega)).mono fun _ _ r=>dk_s r hv (zaM (zeI h n hm) (by omega))
theorem zfK (h:Bd D k) (hk:k<=200000) (n:ByteArray) (hv:IsL FL w fv D.f):Calls Tryz.prog 99 #[zac fv D,.string n] w (zaL w fv (Dp.delete D n)):=
 (zjM fv D n w hv (zaM h (by omega))).mono fun _ _ r=>dk_s r hv (zaM (zam h n) (by omega))
end
theorem zb8 {w W W':World} {fv fv':Value} {D':Dp.Dk} (b:Below w.heap.size w W) (k:DkS W fv D' fv' W') {t:Nat} (h1:w.heap.size<=t) (h2:t<W.heap.size) (hs:Sep fv t) (x y z u q:Value):DkS w fv D' fv' (set5 W' t x y z u q):=
 ⟨IsL.set5 k.f (k.s t h2 hs) x y z u q,fun j hj hsj=>k.s j (Nat.lt_of_lt_of_le hj b.size) hsj,zai (b.trans (k.w.mono b.size)) h1 x y z u q⟩
def Stp (N:Nat) (caps:Array Value) (fv:Value) (D:Dp.Dk) (R:Dp.Dk×Int) (w:World):Prop:=
 (∀args w,(callFunc N args).run Tryz.prog w= .ok (.enter N args) w)/\∀W,Below w.heap.size w W->Calls Tryz.prog N (#[zac fv D]++caps) W (zaL W fv R)
theorem created_any (n:ByteArray) (w:World):Calls Tryz.prog 130 #[.string n] w fun e w'=>e= .returned (.func (.func 149) #[] #[.pointer (some ⟨w.heap.size,0,none⟩)])/\w'=w.alloc (.cells #[.string n] 9):=by
 have hmf:=Dsk.made_func
 go_enter Tryz.func130,Tryz.ntmps130
 go_wp2_with fail;go_ret;exact ⟨rfl,rfl⟩
theorem created1 (fa:Option Addr) (fn fc:Nat) (D:Dp.Dk) (n:ByteArray) (b:Nat) (R:Dp.Dk×Int) (w:World) (hv:IsL FL w (.slice fa fn fc) D.f) (hb:w.heap[b]?=some (.cells #[.string n] 9 (0,0)))
 (C:∀W,Below w.heap.size w W->Calls Tryz.prog 97 #[zac (.slice fa fn fc) D,.string n] W (zaL W (.slice fa fn fc) R)):
 Calls Tryz.prog 149 #[zac (.slice fa fn fc) D,.pointer (some ⟨b,0,none⟩)] w (zaL w (.slice fa fn fc) R):=by
 obtain ⟨g0,g1,gb,gs⟩:=zay w #[.slice fa fn fc,.int .i64 D.c,.bool D.a,.int .i64 D.l,.bool D.x] #[.slice none 0 0,.int .i64 0,.bool false,.int .i64 0,.bool false] 27 27;have HG:=zid g1;have HB:=zid gb;have HS:=zid (Array.getElem?_eq_some_iff.1 g1).1;have SP:=zid (show Sep (.slice fa fn fc) (w.heap.size+1) from IsL.sep_new hv (by omega));have HN:=(zaE (hkeep hb gb)).1;have HC:=zid C;unfold zac at HC ⊢;clear hv hb C g0 g1 gb gs
 go_enter Tryz.func149,Tryz.ntmps149
 go_wp2_with fail;generalize World.alloc (World.alloc w _) _=w0 at HG HB HS HN ⊢;refine (HC.out _ HB.out).mono ?_;rintro e w1 ⟨ga,gn,gc,rfl,kk⟩;obtain ⟨q0,q1,q2,q3,q4⟩:=zaa (hkeep HG.out kk.w);obtain ⟨qf0,qf1,qf2,qf3,qf4⟩:=zad (hkeep HG.out kk.w);have LY:=zid (zb8 HB.out kk (t:=w.heap.size+1) (by omega) HS.out SP.out (.slice ga gn gc) (.int .i64 R.1.c) (.bool R.1.a) (.int .i64 R.1.l) (.bool R.1.x));clear kk;unfold zac;go_wp2_with fail;refine bodyPost_ret (v:= .tuple #[.agg #[.slice ga gn gc,.int .i64 R.1.c,.bool R.1.a,.int .i64 R.1.l,.bool R.1.x],.int .i64 R.2]) (by simp [results,Tryz.results149,go_sem,q0,q1,q2,q3,q4]) rfl ?_;exact ⟨_,_,_,rfl,LY.out⟩
theorem deleted_any (n:ByteArray) (w:World):Calls Tryz.prog 129 #[.string n] w fun e w'=>e= .returned (.func (.func 148) #[] #[.pointer (some ⟨w.heap.size,0,none⟩)])/\w'=w.alloc (.cells #[.string n] 9):=by
 have hmf:=Dsk.made_func
 go_enter Tryz.func129,Tryz.ntmps129
 go_wp2_with fail;go_ret;exact ⟨rfl,rfl⟩
theorem deleted1 (fa:Option Addr) (fn fc:Nat) (D:Dp.Dk) (n:ByteArray) (b:Nat) (R:Dp.Dk×Int) (w:World) (hv:IsL FL w (.slice fa fn fc) D.f) (hb:w.heap[b]?=some (.cells #[.string n] 9 (0,0)))
 (C:∀W,Below w.heap.size w W->Calls Tryz.prog 99 #[zac (.slice fa fn fc) D,.string n] W (zaL W (.slice fa fn fc) R)):
 Calls Tryz.prog 148 #[zac (.slice fa fn fc) D,.pointer (some ⟨b,0,none⟩)] w (zaL w (.slice fa fn fc) R):=by
 obtain ⟨g0,g1,gb,gs⟩:=zay w #[.slice fa fn fc,.int .i64 D.c,.bool D.a,.int .i64 D.l,.bool D.x] #[.slice none 0 0,.int .i64 0,.bool false,.int .i64 0,.bool false] 27 27;have HG:=zid g1;have HB:=zid gb;have HS:=zid (Array.getElem?_eq_some_iff.1 g1).1;have SP:=zid (show Sep (.slice fa fn fc) (w.heap.size+1) from IsL.sep_new hv (by omega));have HN:=(zaE (hkeep hb gb)).1;have HC:=zid C;unfold zac at HC ⊢;clear hv hb C g0 g1 gb gs
 go_enter Tryz.func148,Tryz.ntmps148
 go_wp2_with fail;generalize World.alloc (World.alloc w _) _=w0 at HG HB HS HN ⊢;refine (HC.out _ HB.out).mono ?_;rintro e w1 ⟨ga,gn,gc,rfl,kk⟩;obtain ⟨q0,q1,q2,q3,q4⟩:=zaa (hkeep HG.out kk.w);obtain ⟨qf0,qf1,qf2,qf3,qf4⟩:=zad (hkeep HG.out kk.w);have LY:=zid (zb8 HB.out kk (t:=w.heap.size+1) (by omega) HS.out SP.out (.slice ga gn gc) (.int .i64 R.1.c) (.bool R.1.a) (.int .i64 R.1.l) (.bool R.1.x));clear kk;unfold zac;go_wp2_with fail;refine bodyPost_ret (v:= .tuple #[.agg #[.slice ga gn gc,.int .i64 R.1.c,.bool R.1.a,.int .i64 R.1.l,.bool R.1.x],.int .i64 R.2]) (by simp [results,Tryz.results148,go_sem,q0,q1,q2,q3,q4]) rfl ?_;exact ⟨_,_,_,rfl,LY.out⟩
theorem synced_any (n:ByteArray) (w:World):Calls Tryz.prog 133 #[.string n] w fun e w'=>e= .returned (.func (.func 151) #[] #[.pointer (some ⟨w.heap.size,0,none⟩)])/\w'=w.alloc (.cells #[.string n] 9):=by
 have hmf:=Dsk.made_func
 go_enter Tryz.func133,Tryz.ntmps133
 go_wp2_with fail;go_ret;exact ⟨rfl,rfl⟩
theorem synced1 (fa:Option Addr) (fn fc:Nat) (D:Dp.Dk) (n:ByteArray) (b:Nat) (R:Dp.Dk×Int) (w:World) (hv:IsL FL w (.slice fa fn fc) D.f) (hb:w.heap[b]?=some (.cells #[.string n] 9 (0,0)))
 (C:∀W,Below w.heap.size w W->Calls Tryz.prog 103 #[zac (.slice fa fn fc) D,.string n] W (zaL W (.slice fa fn fc) R)):
 Calls Tryz.prog 151 #[zac (.slice fa fn fc) D,.pointer (some ⟨b,0,none⟩)] w (zaL w (.slice fa fn fc) R):=by
 obtain ⟨g0,g1,gb,gs⟩:=zay w #[.slice fa fn fc,.int .i64 D.c,.bool D.a,.int .i64 D.l,.bool D.x] #[.slice none 0 0,.int .i64 0,.bool false,.int .i64 0,.bool false] 27 27;have HG:=zid g1;have HB:=zid gb;have HS:=zid (Array.getElem?_eq_some_iff.1 g1).1;have SP:=zid (show Sep (.slice fa fn fc) (w.heap.size+1) from IsL.sep_new hv (by omega));have HN:=(zaE (hkeep hb gb)).1;have HC:=zid C;unfold zac at HC ⊢;clear hv hb C g0 g1 gb gs
 go_enter Tryz.func151,Tryz.ntmps151
 go_wp2_with fail;generalize World.alloc (World.alloc w _) _=w0 at HG HB HS HN ⊢;refine (HC.out _ HB.out).mono ?_;rintro e w1 ⟨ga,gn,gc,rfl,kk⟩;obtain ⟨q0,q1,q2,q3,q4⟩:=zaa (hkeep HG.out kk.w);obtain ⟨qf0,qf1,qf2,qf3,qf4⟩:=zad (hkeep HG.out kk.w);have LY:=zid (zb8 HB.out kk (t:=w.heap.size+1) (by omega) HS.out SP.out (.slice ga gn gc) (.int .i64 R.1.c) (.bool R.1.a) (.int .i64 R.1.l) (.bool R.1.x));clear kk;unfold zac;go_wp2_with fail;refine bodyPost_ret (v:= .tuple #[.agg #[.slice ga gn gc,.int .i64 R.1.c,.bool R.1.a,.int .i64 R.1.l,.bool R.1.x],.int .i64 R.2]) (by simp [results,Tryz.results151,go_sem,q0,q1,q2,q3,q4]) rfl ?_;exact ⟨_,_,_,rfl,LY.out⟩
theorem appended_any (n s:ByteArray) (w:World):Calls Tryz.prog 131 #[.string n,.string s] w fun e w'=>e= .returned (.func (.func 150) #[] #[.pointer (some ⟨w.heap.size,0,none⟩),.pointer (some ⟨w.heap.size+1,0,none⟩)])/\w'=(w.alloc (.cells #[.string n] 9)).alloc (.cells #[.string s] 9):=by
 have hmf:=Dsk.made_func
 go_enter Tryz.func131,Tryz.ntmps131
 go_wp2_with fail;go_ret;exact ⟨by simp,rfl⟩
theorem appended1 (fa:Option Addr) (fn fc:Nat) (D:Dp.Dk) (n s:ByteArray) (b b2:Nat) (R:Dp.Dk×Int) (w:World) (hv:IsL FL w (.slice fa fn fc) D.f) (hb:w.heap[b]?=some (.cells #[.string n] 9 (0,0))) (hb2:w.heap[b2]?=some (.cells #[.string s] 9 (0,0)))
 (C:∀W,Below w.heap.size w W->Calls Tryz.prog 101 #[zac (.slice fa fn fc) D,.string n,.string s] W (zaL W (.slice fa fn fc) R)):
 Calls Tryz.prog 150 #[zac (.slice fa fn fc) D,.pointer (some ⟨b,0,none⟩),.pointer (some ⟨b2,0,none⟩)] w (zaL w (.slice fa fn fc) R):=by
 obtain ⟨g0,g1,gb,gs⟩:=zay w #[.slice fa fn fc,.int .i64 D.c,.bool D.a,.int .i64 D.l,.bool D.x] #[.slice none 0 0,.int .i64 0,.bool false,.int .i64 0,.bool false] 27 27;have HG:=zid g1;have HB:=zid gb;have HS:=zid (Array.getElem?_eq_some_iff.1 g1).1;have SP:=zid (show Sep (.slice fa fn fc) (w.heap.size+1) from IsL.sep_new hv (by omega));have HN:=(zaE (hkeep hb gb)).1;have HN2:=(zaE (hkeep hb2 gb)).1;have HC:=zid C;unfold zac at HC ⊢;clear hv hb hb2 C g0 g1 gb gs
 go_enter Tryz.func150,Tryz.ntmps150
 go_wp2_with fail;generalize World.alloc (World.alloc w _) _=w0 at HG HB HS HN HN2 ⊢;refine (HC.out _ HB.out).mono ?_;rintro e w1 ⟨ga,gn,gc,rfl,kk⟩;obtain ⟨q0,q1,q2,q3,q4⟩:=zaa (hkeep HG.out kk.w);obtain ⟨qf0,qf1,qf2,qf3,qf4⟩:=zad (hkeep HG.out kk.w);have LY:=zid (zb8 HB.out kk (t:=w.heap.size+1) (by omega) HS.out SP.out (.slice ga gn gc) (.int .i64 R.1.c) (.bool R.1.a) (.int .i64 R.1.l) (.bool R.1.x));clear kk;unfold zac;go_wp2_with fail;refine bodyPost_ret (v:= .tuple #[.agg #[.slice ga gn gc,.int .i64 R.1.c,.bool R.1.a,.int .i64 R.1.l,.bool R.1.x],.int .i64 R.2]) (by simp [results,Tryz.results150,go_sem,q0,q1,q2,q3,q4]) rfl ?_;exact ⟨_,_,_,rfl,LY.out⟩
theorem zhH (n s:ByteArray) (w:World):Calls Tryz.prog 134 #[.string n,.string s] w fun e w'=>e= .returned (.func (.func 152) #[] #[.pointer (some ⟨w.heap.size,0,none⟩),.pointer (some ⟨w.heap.size+1,0,none⟩)])/\w'=(w.alloc (.cells #[.string n] 9)).alloc (.cells #[.string s] 9):=by
 have hmf:=Dsk.made_func
 go_enter Tryz.func134,Tryz.ntmps134
 go_wp2_with fail;go_ret;exact ⟨by simp,rfl⟩
theorem renamed1 (fa:Option Addr) (fn fc:Nat) (D:Dp.Dk) (n s:ByteArray) (b b2:Nat) (R:Dp.Dk×Int) (w:World) (hv:IsL FL w (.slice fa fn fc) D.f) (hb:w.heap[b]?=some (.cells #[.string n] 9 (0,0))) (hb2:w.heap[b2]?=some (.cells #[.string s] 9 (0,0)))
 (C:∀W,Below w.heap.size w W->Calls Tryz.prog 153 #[zac (.slice fa fn fc) D,.string n,.string s] W (zaL W (.slice fa fn fc) R)):
 Calls Tryz.prog 152 #[zac (.slice fa fn fc) D,.pointer (some ⟨b,0,none⟩),.pointer (some ⟨b2,0,none⟩)] w (zaL w (.slice fa fn fc) R):=by
 obtain ⟨g0,g1,gb,gs⟩:=zay w #[.slice fa fn fc,.int .i64 D.c,.bool D.a,.int .i64 D.l,.bool D.x] #[.slice none 0 0,.int .i64 0,.bool false,.int .i64 0,.bool false] 27 27;have HG:=zid g1;have HB:=zid gb;have HS:=zid (Array.getElem?_eq_some_iff.1 g1).1;have SP:=zid (show Sep (.slice fa fn fc) (w.heap.size+1) from IsL.sep_new hv (by omega));have HN:=(zaE (hkeep hb gb)).1;have HN2:=(zaE (hkeep hb2 gb)).1;have HC:=zid C;unfold zac at HC ⊢;clear hv hb hb2 C g0 g1 gb gs
 go_enter Tryz.func152,Tryz.ntmps152
 go_wp2_with fail;generalize World.alloc (World.alloc w _) _=w0 at HG HB HS HN HN2 ⊢;refine (HC.out _ HB.out).mono ?_;rintro e w1 ⟨ga,gn,gc,rfl,kk⟩;obtain ⟨q0,q1,q2,q3,q4⟩:=zaa (hkeep HG.out kk.w);obtain ⟨qf0,qf1,qf2,qf3,qf4⟩:=zad (hkeep HG.out kk.w);have LY:=zid (zb8 HB.out kk (t:=w.heap.size+1) (by omega) HS.out SP.out (.slice ga gn gc) (.int .i64 R.1.c) (.bool R.1.a) (.int .i64 R.1.l) (.bool R.1.x));clear kk;unfold zac;go_wp2_with fail;refine bodyPost_ret (v:= .tuple #[.agg #[.slice ga gn gc,.int .i64 R.1.c,.bool R.1.a,.int .i64 R.1.l,.bool R.1.x],.int .i64 R.2]) (by simp [results,Tryz.results152,go_sem,q0,q1,q2,q3,q4]) rfl ?_;exact ⟨_,_,_,rfl,LY.out⟩
theorem zi6 (p q:Addr) (w:World):Calls Tryz.prog 127 #[.pointer (some p),.pointer (some q)] w fun e w'=>e= .returned (.func (.func 146) #[] #[.pointer (some ⟨w.heap.size+1,0,none⟩),.pointer (some ⟨w.heap.size,0,none⟩)])/\w'=(w.alloc (.cells #[.pointer (some p)] 162)).alloc (.cells #[.pointer (some q)] 163):=by
 have hmf:=Dsk.made_func
 go_enter Tryz.func127,Tryz.ntmps127
 go_wp2_with fail;go_ret;exact ⟨by simp,rfl⟩
theorem take1_no (f:Value) (be bd pe:Nat) (E:Int) (hE:E≠0) (w:World) (h1:w.cell? ⟨be,0,none⟩=some (.pointer (some ⟨pe,0,none⟩))) (h2:w.cell? ⟨pe,0,none⟩=some (.int .i64 E)):
 Calls Tryz.prog 146 #[f,.pointer (some ⟨be,0,none⟩),.pointer (some ⟨bd,0,none⟩)] w fun e w'=>e= .returned (.tuple #[])/\w=w':=by
 have hb:=ne_b hE;clear hE
 go_enter Tryz.func146,Tryz.ntmps146
 go_wp2_with fail
 go_end0
 exact ⟨rfl,rfl⟩
theorem zgv {P:Program} {id:Nat} {ops:Array Oper} {Q:Exit->Act->World->Prop} {a:Act} {w:World} (hm:P.follows .mixedOrders=true) (S:World->Prop) (k:Nat) (hk:ops.size=k) (L:Array Bool) (hL:Array.replicate k false=L)
 (h:wpAnyH P .any ops Q S k L a w.drew):(Code.region id ops true).wp P Q a w:=
 wp_region_held (S:=S) hm (by rw [hk,hL];exact h)
section
variable {W W':World} {be bd pe pd:Nat} {x y:Value}
theorem Pq.keep (h:W.cell? ⟨be,0,none⟩=some x/\W.cell? ⟨bd,0,none⟩=some y) (k:Below W.heap.size W W'):W'.cell? ⟨be,0,none⟩=some x/\W'.cell? ⟨bd,0,none⟩=some y:=
 ⟨(k.cell (p:=⟨be,0,none⟩) (block_lt_of_cell h.1)).trans h.1,(k.cell (p:=⟨bd,0,none⟩) (block_lt_of_cell h.2)).trans h.2⟩
theorem Pq.st1 (h:W.cell? ⟨be,0,none⟩=some x/\W.cell? ⟨bd,0,none⟩=some y) {t i:Nat} {v:Value} (h1:be≠t) (h2:bd≠t):(W.setCell ⟨t,i,none⟩ v).cell? ⟨be,0,none⟩=some x/\(W.setCell ⟨t,i,none⟩ v).cell? ⟨bd,0,none⟩=some y:=
 ⟨by rw [World.cell?_setCell_other _ _ _ _ (fun e=>h1 (by injection e with e;exact e.symm))];exact h.1,by rw [World.cell?_setCell_other _ _ _ _ (fun e=>h2 (by injection e with e;exact e.symm))];exact h.2⟩
theorem Pq.st5 (h:W.cell? ⟨be,0,none⟩=some x/\W.cell? ⟨bd,0,none⟩=some y) {t:Nat} {x0 x1 x2 x3 x4:Value} (h1:be≠t) (h2:bd≠t):(((((W.setCell ⟨t,0,none⟩ x0).setCell ⟨t,1,none⟩ x1).setCell ⟨t,2,none⟩ x2).setCell ⟨t,3,none⟩ x3).setCell ⟨t,4,none⟩ x4).cell? ⟨be,0,none⟩=some x/\(((((W.setCell ⟨t,0,none⟩ x0).setCell ⟨t,1,none⟩ x1).setCell ⟨t,2,none⟩ x2).setCell ⟨t,3,none⟩ x3).setCell ⟨t,4,none⟩ x4).cell? ⟨bd,0,none⟩=some y:=
 Pq.st1 (Pq.st1 (Pq.st1 (Pq.st1 (Pq.st1 h h1 h2) h1 h2) h1 h2) h1 h2) h1 h2
end
theorem take1_go (N:Nat) (caps:Array Value) (fa:Option Addr) (fn fc:Nat) (D:Dp.Dk) (R:Dp.Dk×Int) (be bd pe pd:Nat) (w:World) (hst:Stp N caps (.slice fa fn fc) D R w)
 (h1:w.cell? ⟨be,0,none⟩=some (.pointer (some ⟨pe,0,none⟩))) (h2:w.cell? ⟨bd,0,none⟩=some (.pointer (some ⟨pd,0,none⟩)))
 (he:∃T,w.heap[pe]?=some (.cells #[.int .i64 0] T (0,0))) (hd:∃A T,w.heap[pd]?=some (.cells A T (0,0))/\A[0]?=some (.slice fa fn fc)/\A[1]?=some (.int .i64 D.c)/\A[2]?=some (.bool D.a)/\A[3]?=some (.int .i64 D.l)/\A[4]?=some (.bool D.x)) (hne:pd≠pe) (hb1:be≠pd) (hb2:be≠pe) (hb3:bd≠pd) (hb4:bd≠pe):
 Calls Tryz.prog 146 #[.func (.func N) #[] caps,.pointer (some ⟨be,0,none⟩),.pointer (some ⟨bd,0,none⟩)] w fun e w'=>e= .returned (.tuple #[])/\
  ∃a n c W1,DkS w (.slice fa fn fc) R.1 (.slice a n c) W1/\w'=(set5 W1 pd (.slice a n c) (.int .i64 R.1.c) (.bool R.1.a) (.int .i64 R.1.l) (.bool R.1.x)).setCell ⟨pe,0,none⟩ (.int .i64 R.2):=by
 obtain ⟨T,he⟩:=he;obtain ⟨A,T',hd,a0,a1,a2,a3,a4⟩:=hd
 obtain ⟨c0,c1,c2,c3,c4⟩:w.cell? ⟨pd,0,none⟩=some (.slice fa fn fc)/\w.cell? ⟨pd,1,none⟩=some (.int .i64 D.c)/\w.cell? ⟨pd,2,none⟩=some (.bool D.a)/\w.cell? ⟨pd,3,none⟩=some (.int .i64 D.l)/\w.cell? ⟨pd,4,none⟩=some (.bool D.x):=
  ⟨by rw [Lib.cell_of_heap hd];exact a0,by rw [Lib.cell_of_heap hd];exact a1,by rw [Lib.cell_of_heap hd];exact a2,by rw [Lib.cell_of_heap hd];exact a3,by rw [Lib.cell_of_heap hd];exact a4⟩
 obtain ⟨e0,f0⟩:=zaE he;have A0:=zid (And.intro a0 (And.intro a1 (And.intro a2 (And.intro a3 a4))));have HD:=zid hd;have HE:=zid he;have hen:=hst.1;have HC:=zid hst.2;unfold zac at HC;clear hd he hst a0 a1 a2 a3 a4
 go_enter Tryz.func146,Tryz.ntmps146
 go_upto_region 1 with (fail)
 have CL:=zid fun (w1:World) (kw:Below w.heap.size w w1)=>(show (w1.cell? ⟨pd,0,none⟩=some (.slice fa fn fc)/\w1.cell? ⟨pd,1,none⟩=some (.int .i64 D.c)/\w1.cell? ⟨pd,2,none⟩=some (.bool D.a)/\w1.cell? ⟨pd,3,none⟩=some (.int .i64 D.l)/\w1.cell? ⟨pd,4,none⟩=some (.bool D.x))/\(w1.frozen? ⟨pd,0,none⟩=false/\w1.frozen? ⟨pd,1,none⟩=false/\w1.frozen? ⟨pd,2,none⟩=false/\w1.frozen? ⟨pd,3,none⟩=false/\w1.frozen? ⟨pd,4,none⟩=false)/\w1.cell? ⟨pe,0,none⟩=some (.int .i64 0)/\w1.frozen? ⟨pe,0,none⟩=false from by
  have hd1:=hkeep HD.out kw;have he1:=zaE (hkeep HE.out kw)
  exact ⟨⟨by rw [Lib.cell_of_heap hd1];exact A0.out.1,by rw [Lib.cell_of_heap hd1];exact A0.out.2.1,by rw [Lib.cell_of_heap hd1];exact A0.out.2.2.1,by rw [Lib.cell_of_heap hd1];exact A0.out.2.2.2.1,by rw [Lib.cell_of_heap hd1];exact A0.out.2.2.2.2⟩,
   ⟨Lib.frozen_of_heap hd1 0,Lib.frozen_of_heap hd1 1,Lib.frozen_of_heap hd1 2,Lib.frozen_of_heap hd1 3,Lib.frozen_of_heap hd1 4⟩,he1.1,he1.2⟩)
 have H1:=zid h1;have H2:=zid h2;have HNE:=zid hne
 have P2:=zid fun (W:World) (x0 x1 x2 x3 x4:Value) (h:W.cell? ⟨pe,0,none⟩=some (.int .i64 0)) (h':W.frozen? ⟨pe,0,none⟩=false)=>(show (((((W.setCell ⟨pd,0,none⟩ x0).setCell ⟨pd,1,none⟩ x1).setCell ⟨pd,2,none⟩ x2).setCell ⟨pd,3,none⟩ x3).setCell ⟨pd,4,none⟩ x4).cell? ⟨pe,0,none⟩=some (.int .i64 0)/\(((((W.setCell ⟨pd,0,none⟩ x0).setCell ⟨pd,1,none⟩ x1).setCell ⟨pd,2,none⟩ x2).setCell ⟨pd,3,none⟩ x3).setCell ⟨pd,4,none⟩ x4).frozen? ⟨pe,0,none⟩=false from
  ⟨(Pq.st5 ⟨h,h⟩ hne.symm hne.symm).1,by simpa using h'⟩)
 have HBN:=zid (And.intro hb1 (And.intro hb3 (And.intro hb2 hb4)));clear hne hb1 hb2 hb3 hb4;have h0:(fun W:World=>W.cell? ⟨be,0,none⟩=some (.pointer (some ⟨pe,0,none⟩))/\W.cell? ⟨bd,0,none⟩=some (.pointer (some ⟨pd,0,none⟩))) w.drew:=⟨H1.out,H2.out⟩;refine zgv (by kernel_rfl) (fun W:World=>W.cell? ⟨be,0,none⟩=some (.pointer (some ⟨pe,0,none⟩))/\W.cell? ⟨bd,0,none⟩=some (.pointer (some ⟨pd,0,none⟩))) 14 rfl #[false,false,false,false,false,false,false,false,false,false,false,false,false,false] rfl ?_;refine wpAnyH_take (i:=0) (v:= .pointer (some ⟨pd,0,none⟩)) rfl (by kernel_rfl) (by kernel_rfl) (by kernel_rfl) (fun _ _ _ h=>h) (Or.inl ⟨by rfl,fun W' hS=>?_⟩) h0 ?_
 · have c:=hS.2;go_simp
 simp only [Act.put,List.setIfInBounds_toArray,List.set_cons_zero];refine wpAnyH_take (i:=1) (v:= .pointer (some ⟨pe,0,none⟩)) rfl (by kernel_rfl) (by kernel_rfl) (by kernel_rfl) (fun _ _ _ h=>h) (Or.inl ⟨by rfl,fun W' hS=>?_⟩) h0 ?_
 · have c:=hS.1;go_simp
 simp only [Act.put,List.setIfInBounds_toArray,List.set_cons_zero,List.set_cons_succ];refine wpAnyH_take (i:=2) (v:= .func (.func N) #[] caps) rfl (by kernel_rfl) (by kernel_rfl) (by kernel_rfl) (fun _ _ _ h=>h) (Or.inl ⟨by rfl,fun W' hS=>?_⟩) h0 ?_
 · go_simp
 simp only [Act.put,List.setIfInBounds_toArray,List.set_cons_zero,List.set_cons_succ];refine wpAnyH_take (i:=3) (v:= .pointer (some ⟨pd,0,none⟩)) rfl (by kernel_rfl) (by kernel_rfl) (by kernel_rfl) (fun _ _ _ h=>h) (Or.inl ⟨by rfl,fun W' hS=>?_⟩) h0 ?_
 · have c:=hS.2;go_simp
 simp only [Act.put,List.setIfInBounds_toArray,List.set_cons_zero,List.set_cons_succ];refine wpAnyH_take (i:=4) (v:= .pointer (some ⟨pd,0,none⟩)) rfl (by kernel_rfl) (by kernel_rfl) (by kernel_rfl) (fun _ _ _ h=>h) (Or.inl ⟨by rfl,fun W' hS=>?_⟩) h0 ?_
 · go_simp
 simp only [Act.put,List.setIfInBounds_toArray,List.set_cons_zero,List.set_cons_succ];refine wpAnyH_ready (rs:=[5]) (by kernel_rfl) (by simp) (AllReadyH.cons rfl (fun K hK=>?_) AllReadyH.nil)
 go_simp
 refine (zid hK).out _ _ h0 (fun _=>?_);clear hK K;simp only [List.setIfInBounds_toArray,List.set_cons_zero,List.set_cons_succ];refine wpAnyH_ready (rs:=[6]) (by kernel_rfl) (by simp) (AllReadyH.cons rfl (fun K hK=>?_) AllReadyH.nil);replace hK:=zid hK
 go_simp
 refine (HC.out _ (by first | exact Below.refl _ _ | exact (Below.refl _ _).drew)).mono ?_;rintro e w1 ⟨ga,gn,gc,rfl,kk⟩;have kw:Below w.heap.size w w1:=(by first | exact kk.w | exact (Below.refl _ _).drew.trans kk.w);have KK:Hid (DkS w (.slice fa fn fc) R.1 (.slice ga gn gc) w1):=zid ⟨kk.f,kk.s,kw⟩;have s5:=Pq.keep ⟨H1.out,H2.out⟩ kw;obtain ⟨⟨r0,r1,r2,r3,r4⟩,⟨t0,t1,t2,t3,t4⟩,r5,t5⟩:=CL.out w1 kw;clear kk kw c0 c1 c2 c3 c4 e0 f0 h1 h2 h0;dsimp only;refine hK.out _ _ s5 (fun _=>?_);clear hK K;unfold zac;simp only [List.setIfInBounds_toArray,List.set_cons_zero,List.set_cons_succ];refine wpAnyH_take (i:=7) (v:= .tuple #[.agg #[.slice ga gn gc,.int .i64 R.1.c,.bool R.1.a,.int .i64 R.1.l,.bool R.1.x],.int .i64 R.2]) rfl (by kernel_rfl) (by kernel_rfl) (by kernel_rfl) (fun _ _ _ h=>h) (Or.inl ⟨by rfl,fun W' hS=>?_⟩) s5 ?_
 · go_simp
 simp only [Act.put,List.setIfInBounds_toArray,List.set_cons_zero,List.set_cons_succ];refine wpAnyH_take (i:=8) (v:= .agg #[.slice ga gn gc,.int .i64 R.1.c,.bool R.1.a,.int .i64 R.1.l,.bool R.1.x]) rfl (by kernel_rfl) (by kernel_rfl) (by kernel_rfl) (fun _ _ _ h=>h) (Or.inl ⟨by rfl,fun W' hS=>?_⟩) s5 ?_
 · go_simp
 simp only [Act.put,List.setIfInBounds_toArray,List.set_cons_zero,List.set_cons_succ];refine wpAnyH_take (i:=9) (v:= .int .i64 R.2) rfl (by kernel_rfl) (by kernel_rfl) (by kernel_rfl) (fun _ _ _ h=>h) (Or.inl ⟨by rfl,fun W' hS=>?_⟩) s5 ?_
 · go_simp
 simp only [Act.put,List.setIfInBounds_toArray,List.set_cons_zero,List.set_cons_succ];refine wpAnyH_take (i:=10) (v:= .pointer (some ⟨pd,0,none⟩)) rfl (by kernel_rfl) (by kernel_rfl) (by kernel_rfl) (fun _ _ _ h=>h) (Or.inl ⟨by rfl,fun W' hS=>?_⟩) s5 ?_
 · go_simp
 simp only [Act.put,List.setIfInBounds_toArray,List.set_cons_zero,List.set_cons_succ];refine wpAnyH_ready (rs:=[11]) (by kernel_rfl) (by simp) (AllReadyH.cons rfl (fun K hK=>?_) AllReadyH.nil);replace hK:=zid hK
 go_simp
 have s6:=Pq.st5 s5 (x0:= .slice ga gn gc) (x1:= .int .i64 R.1.c) (x2:= .bool R.1.a) (x3:= .int .i64 R.1.l) (x4:= .bool R.1.x) HBN.out.1 HBN.out.2.1;obtain ⟨r6,t6⟩:=P2.out w1 (.slice ga gn gc) (.int .i64 R.1.c) (.bool R.1.a) (.int .i64 R.1.l) (.bool R.1.x) r5 t5;refine hK.out _ _ s6 (fun _=>?_);clear hK K;obtain ⟨Z,hZ⟩:∃Z,((((w1.setCell ⟨pd,0,none⟩ (.slice ga gn gc)).setCell ⟨pd,1,none⟩ (.int .i64 R.1.c)).setCell ⟨pd,2,none⟩ (.bool R.1.a)).setCell ⟨pd,3,none⟩ (.int .i64 R.1.l)).setCell ⟨pd,4,none⟩ (.bool R.1.x)=Z:=⟨_,rfl⟩;rw [hZ] at s6 r6 t6 ⊢;have HZ:=zid hZ;have s7:=Pq.st1 s6 (i:=0) (v:= .int .i64 R.2) HBN.out.2.2.1 HBN.out.2.2.2;clear hZ r0 r1 r2 r3 r4 t0 t1 t2 t3 t4 r5 t5;refine wpAnyH_take (i:=12) (v:= .pointer (some ⟨pe,0,none⟩)) rfl (by kernel_rfl) (by kernel_rfl) (by kernel_rfl) (fun _ _ _ h=>h) (Or.inl ⟨by rfl,fun W' hS=>?_⟩) s6 ?_
 · go_simp
 simp only [Act.put,List.setIfInBounds_toArray,List.set_cons_zero,List.set_cons_succ];refine wpAnyH_ready (rs:=[13]) (by kernel_rfl) (by simp) (AllReadyH.cons rfl (fun K hK=>?_) AllReadyH.nil);replace hK:=zid hK
 go_simp
 refine hK.out _ _ s7 (fun _=>?_);clear hK K;refine wpAnyH_done (by kernel_rfl) ?_ _;clear r6 t6 s5 s6 s7;go_wp2_with fail
 go_end0
 exact ⟨rfl,_,_,_,w1,KK.out,by rw [<-HZ.out];rfl⟩
end Sto
end Go.Proofs.YtgmppfpllogdcaaGreat

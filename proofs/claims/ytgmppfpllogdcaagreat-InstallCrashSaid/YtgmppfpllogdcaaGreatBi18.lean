/-
  Parts of what the laws of this seat stand on:DiskApp,DiskDo,DiskHeld,DiskAwake,DiskVar.
-/
import Derived.Test.YtgmppfpllogdcaaGreatBi1
import Derived.ChangeArms
import Derived.Deep.DeepCutAuto
import Derived.Deep.RegionWith
import Derived.Deep.Slices
import Derived.Deep.Strs
import Derived.Test.YtgmppfpllogdcaaGreatBi11
import Derived.Test.YtgmppfpllogdcaaGreatBi17
set_option maxRecDepth 100000
set_option maxHeartbeats 6400000
namespace Go.Proofs.YtgmppfpllogdcaaGreat
namespace Dsk
open Go.RowKit Dp
theorem zjX (D:Dk) (n s:ByteArray):append D n s=one D n (fun f=>if 0<D.c/\D.c<(used D.f:Int)+(s.size:Int) then f else ⟨f.n,f.d++s,f.s⟩) (fun _=>if 0<D.c/\D.c<(used D.f:Int)+(s.size:Int) then 9 else 0):=by
 unfold append one
 cases get D.f n with
 | none=>rfl
 | some f=>
  by_cases h:0<D.c/\D.c<(used D.f:Int)+(s.size:Int)
  · simp only [if_pos h]
    exact zc4 D _ _ (by decide)
  · simp only [if_neg h]
theorem sync_one (D:Dk) (n:ByteArray):sync D n=one D n (fun f=>⟨f.n,f.d,f.d.size⟩) (fun _=>0):=rfl
theorem zgs {w w':World} {fv v:Value} {l0:List Fl} {R:Dk} {fa:Option Addr} {fn fc:Nat} (h:DkRes w fv l0 R v w') (e:fv= .slice fa fn fc):∃a n c,v= .slice a n c:=by
 rcases h.k with ⟨k,_⟩ | k
 · exact ⟨_,_,_,k.trans e⟩
 · exact own_slice k
theorem zjY (fv:Value) (D:Dk) (n s:ByteArray) (w:World) (hv:IsL FL w fv D.f) (hS:Sm D) (hs:s.size<=1000000000):
 Calls Tryz.prog 101 #[zac fv D,.string n,.string s] w (zhd w fv D.f (append D n s)):=by
 rw [zjX]
 have HC:=zid fun (fv:Value) (b1 b2 bd bs:Nat) (W:World) (h:IsL FL W fv D.f) (x1:W.cell? ⟨b1,0,none⟩=some (.string n)) (x2:W.cell? ⟨b2,0,none⟩=some (.func (.func 123) #[] #[.pointer (some ⟨bd,0,none⟩),.pointer (some ⟨bs,0,none⟩)]))
  (xd:W.heap[bd]?=some (.cells #[fv,.int .i64 D.c,.bool D.a,.int .i64 D.l,.bool D.x] 27 (0,0))) (xs:W.cell? ⟨bs,0,none⟩=some (.string s))=>
  zd8 fv D n (fun f=>if 0<D.c/\D.c<(used D.f:Int)+(s.size:Int) then f else ⟨f.n,f.d++s,f.s⟩) (fun _=>if 0<D.c/\D.c<(used D.f:Int)+(s.size:Int) then 9 else 0) 123 #[.pointer (some ⟨bd,0,none⟩),.pointer (some ⟨bs,0,none⟩)] b1 b2 W h hS
   (fun f hf=>by
    have hm:=get_mem hf;have hb:=hS.flb f hm.1;have hu:=zcr hm.1;have:=hS.u;refine ⟨?_,fun h0=>?_⟩
    · split<;>exact hm.2
    · split at h0
      · omega
      · rename_i hx
        rw [if_neg hx]
        exact ⟨hb.1,by show (f.d++s).size<=_;rw [ByteArray.size_append];omega,hb.2.2⟩)
   (enters Tryz.func123 (by kernel_rfl) (by rfl))
   (fun f W' hf b=>by
    have hm:=get_mem hf;have hu:=zcr hm.1;have hu2:=hS.u;have hp':=hkeep xd b
    have hs':W'.cell? ⟨bs,0,none⟩=some (.string s):=by rw [b.cell (p:=⟨bs,0,none⟩) (block_lt_of_cell xs)];exact xs
    have hv':=h.keep b;have hc0:=hS.r.2.2.1;have hc9:=hS.b.1.2
    by_cases hc:D.c=0
    · rw [if_neg (by omega),if_neg (by omega)]
      exact zg9 f s fv D bd bs W' hp' hs' (by omega) hc
    · by_cases hx:D.c<(used D.f:Int)+(s.size:Int)
      · rw [if_pos ⟨by omega,hx⟩,if_pos ⟨by omega,hx⟩]
        exact zg8 f s fv D bd bs W' hp' hs' hv' (by omega) (by omega) (by omega) hc9 hx
      · rw [if_neg (fun h=>hx h.2),if_neg (fun h=>hx h.2)]
        exact zg7 f s fv D bd bs W' hp' hs' hv' (by omega) (by omega) (by omega) hc9 (by omega))
   x1 x2
 have WI:=zid fun (W:World) (bd bs:Nat)=>zeO n (.func 123) #[.pointer (some ⟨bd,0,none⟩),.pointer (some ⟨bs,0,none⟩)] W;have HV:=zid hv
 obtain ⟨fa,fn,fc,rfl⟩:∃a n c,fv= .slice a n c:=by obtain ⟨a,c,h,_⟩:=hv;exact ⟨a,_,c,h⟩
 have hmf:=made_func;obtain ⟨g0,g1,g2,gb,gs⟩:=zfh w #[.slice fa fn fc,.int .i64 D.c,.bool D.a,.int .i64 D.l,.bool D.x] #[.string s] #[.slice none 0 0,.int .i64 0,.bool false,.int .i64 0,.bool false] 27 9 27;have G0:=zid g0;have G1:=zid g1;have G2:=zid g2;have GB:=zid gb;have GS:=zid gs;generalize one D n _ _=R at*;clear hv hS g0 g1 g2 gb gs hs;unfold zac
 go_enter Tryz.func101,Tryz.ntmps101
 go_wp2_with fail;generalize World.alloc (World.alloc (World.alloc w _) _) _=w0 at G0 G1 G2 GB GS ⊢;have HL:=zid (show w.heap.size+1+1<w0.heap.size by have:=GS.out;omega);obtain ⟨p0,p1,p2,p3,p4⟩:=zaa G0.out;have HLL:=HL.out
 have hl0:w.heap.size<w0.heap.size:=by omega
 go_region_with (first | (go_at_call 122;refine (WI.out _ _ _).mono ?_;rintro e w4 ⟨p,q,rfl,hp4,hq4,b4⟩;obtain ⟨z0,z1,z2,z3,z4⟩:=zaa (hkeep G0.out (zah (Below.refl _ _).drew b4))) | (go_at_call 115;refine (HC.out _ _ _ _ _ _ (HV.out.keep (GB.out.trans ((zah (Below.refl _ _).drew b4).mono (by omega)))) hp4 hq4 (hkeep G0.out (zah (Below.refl _ _).drew b4)) (zaE (hkeep G1.out (zah (Below.refl _ _).drew b4))).1).mono ?_;rintro e w5 ⟨v1,rfl,hres⟩;obtain ⟨ga,gn,gc,rfl⟩:=zgs hres rfl;have HRS:=zid (zdo hres (GB.out.trans ((zah (Below.refl _ _).drew b4).mono (by omega))) (k:=w.heap.size+1+1) (by omega) (Nat.lt_of_lt_of_le HL.out (zah (Below.refl _ _).drew b4).size));obtain ⟨q0,q1,q2,q3,q4⟩:=zaa (hkeep G2.out (zah (zah (Below.refl _ _).drew b4) hres.w));obtain ⟨qf0,qf1,qf2,qf3,qf4⟩:=zad (hkeep G2.out (zah (zah (Below.refl _ _).drew b4) hres.w));clear hres b4;unfold zac))
 all_goals
  go_wp2_with fail
  refine bodyPost_ret (v:= .tuple #[.agg #[.slice ga gn gc,.int .i64 R.1.c,.bool R.1.a,.int .i64 R.1.l,.bool R.1.x],.int .i64 R.2]) (by simp [results,Tryz.results101,go_sem,q0,q1,q2,q3,q4]) rfl ?_;exact ⟨_,rfl,HRS.out _ _ _ _ _⟩
theorem sync_any (fv:Value) (D:Dk) (n:ByteArray) (w:World) (hv:IsL FL w fv D.f) (hS:Sm D):
 Calls Tryz.prog 103 #[zac fv D,.string n] w (zhd w fv D.f (sync D n)):=by
 rw [sync_one]
 have HC:=zid fun (fv:Value) (b1 b2:Nat) (W:World) (h:IsL FL W fv D.f) (x1:W.cell? ⟨b1,0,none⟩=some (.string n)) (x2:W.cell? ⟨b2,0,none⟩=some (.func (.func 125) #[] #[]))=>
  zd8 fv D n (fun f=>⟨f.n,f.d,f.d.size⟩) (fun _=>0) 125 #[] b1 b2 W h hS
   (fun f hf=>by
    have hb:=hS.flb f (get_mem hf).1
    exact ⟨(get_mem hf).2,fun _=>⟨hb.1,hb.2.1,by show _<=(f.d.size:Int);omega,by show (f.d.size:Int)<=_;have:=hb.2.1;omega⟩⟩)
   (enters Tryz.func125 (by kernel_rfl) (by rfl))
   (fun f W' hf b=>zia f W') x1 x2
 have WI:=zid fun (W:World)=>zeO n (.func 125) #[] W;have HV:=zid hv
 obtain ⟨fa,fn,fc,rfl⟩:∃a n c,fv= .slice a n c:=by obtain ⟨a,c,h,_⟩:=hv;exact ⟨a,_,c,h⟩
 have hmf:=made_func;obtain ⟨g0,g1,gb,gs⟩:=zay w #[.slice fa fn fc,.int .i64 D.c,.bool D.a,.int .i64 D.l,.bool D.x] #[.slice none 0 0,.int .i64 0,.bool false,.int .i64 0,.bool false] 27 27;have G0:=zid g0;have G1:=zid g1;have GB:=zid gb;have GS:=zid gs;generalize one D n _ _=R at*;clear hv hS g0 g1 gb gs;unfold zac
 go_enter Tryz.func103,Tryz.ntmps103
 go_wp2_with fail;generalize World.alloc (World.alloc w _) _=w0 at G0 G1 GB GS ⊢;have HL:=zid (show w.heap.size+1<w0.heap.size by have:=GS.out;omega);obtain ⟨p0,p1,p2,p3,p4⟩:=zaa G0.out;have HLL:=HL.out
 have hl0:w.heap.size<w0.heap.size:=by omega
 go_region_with (first | (go_at_call 122;refine (WI.out _).mono ?_;rintro e w4 ⟨p,q,rfl,hp4,hq4,b4⟩;obtain ⟨z0,z1,z2,z3,z4⟩:=zaa (hkeep G0.out (zah (Below.refl _ _).drew b4))) | (go_at_call 115;refine (HC.out _ _ _ _ (HV.out.keep (GB.out.trans ((zah (Below.refl _ _).drew b4).mono (by omega)))) hp4 hq4).mono ?_;rintro e w5 ⟨v1,rfl,hres⟩;obtain ⟨ga,gn,gc,rfl⟩:=zgs hres rfl;have HRS:=zid (zdo hres (GB.out.trans ((zah (Below.refl _ _).drew b4).mono (by omega))) (k:=w.heap.size+1) (by omega) (Nat.lt_of_lt_of_le HL.out (zah (Below.refl _ _).drew b4).size));obtain ⟨q0,q1,q2,q3,q4⟩:=zaa (hkeep G1.out (zah (zah (Below.refl _ _).drew b4) hres.w));obtain ⟨qf0,qf1,qf2,qf3,qf4⟩:=zad (hkeep G1.out (zah (zah (Below.refl _ _).drew b4) hres.w));clear hres b4;unfold zac))
 all_goals
  go_wp2_with fail
  refine bodyPost_ret (v:= .tuple #[.agg #[.slice ga gn gc,.int .i64 R.1.c,.bool R.1.a,.int .i64 R.1.l,.bool R.1.x],.int .i64 R.2]) (by simp [results,Tryz.results103,go_sem,q0,q1,q2,q3,q4]) rfl ?_;exact ⟨_,rfl,HRS.out _ _ _ _ _⟩
structure Bd (D:Dk) (k:Nat):Prop where
 b:DkB D
 r:Right D
 n:D.f.length<=k
 u:used D.f<=k*3000
end Dsk
namespace Dp
theorem za7 {D:Dk} {l:List Fl} {own:Int} {a b:Nat} (hn:D.f.length<=a) (hu:used D.f<=b) (hl:own=0->l.length<=a/\used l<=b):(change D l own).1.f.length<=a/\used (change D l own).1.f<=b:=by
 rcases zaQ D l own with ⟨e,_⟩ | ⟨e,_⟩ | ⟨e,_⟩ | ⟨e,h0,_⟩ | ⟨e,h0,_⟩
 all_goals rw [e]
 · exact ⟨hn,hu⟩
 · exact ⟨hn,hu⟩
 · exact ⟨hn,hu⟩
 · exact hl h0
 · exact hl h0
theorem zbr (l:List Fl) (f:Fl):(withF l f).length<=(without l f.n).length+1:=by
 unfold withF;rw [List.length_append,List.length_append]
 have h:(l.filter fun g=>decide (Lt g.n f.n)).length+(l.filter fun g=>decide (Lt f.n g.n)).length<=(without l f.n).length:=by
  unfold without
  induction l with
  | nil=>exact Nat.le_refl _
  | cons g l ih=>
   rcases zgH g.n f.n with h | h | h
   · rw [List.filter_cons_of_pos (by simpa using h),List.filter_cons_of_neg (by simpa using h.asymm),List.filter_cons_of_pos (by simpa using h.ne),List.length_cons,List.length_cons];omega
   · rw [List.filter_cons_of_neg (by rw [h];simpa using Lt.irrefl f.n),List.filter_cons_of_neg (by rw [h];simpa using Lt.irrefl f.n),List.filter_cons_of_neg (by simpa using h)];exact ih
   · rw [List.filter_cons_of_neg (by simpa using h.asymm),List.filter_cons_of_pos (by simpa using h),List.filter_cons_of_pos (by simpa using fun e:g.n=f.n=>h.ne e.symm),List.length_cons,List.length_cons];omega
 simp only [List.length_singleton];omega
theorem zbV (l:List Fl) (n:ByteArray):(without l n).length<=l.length:=List.length_filter_le _ _
theorem act_small (D:Dk) (a:Act):(act D a).1.f.length<=D.f.length+1/\used (act D a).1.f<=used D.f+a.t.size:=by
 have no:∀e:Int,e≠0->(change D [] e).1.f.length<=D.f.length+1/\used (change D [] e).1.f<=used D.f+a.t.size:=fun e he=>za7 (by omega) (by omega) (fun h=>absurd h he);unfold act
 split
 · unfold create
   split
   · exact no 1 (by decide)
   · split
     · exact no 8 (by decide)
     · refine za7 (by omega) (by omega) fun _=>⟨?_,?_⟩
       · have:=zbr D.f ⟨a.n,⟨#[]⟩,0⟩;have:=zbV D.f a.n;dsimp only at*;omega
       · rw [zcb]
         have:=zbp D.f a.n
         show 0+used (without D.f a.n)<=_;omega
 split
 · unfold append
   split
   · exact no 7 (by decide)
   · rename_i f hf
     split
     · exact no 9 (by decide)
     · refine za7 (by omega) (by omega) fun _=>⟨?_,?_⟩
       · have:=zbr D.f ⟨f.n,f.d++a.t,f.s⟩;have:=zbV D.f f.n;dsimp only at*;omega
       · rw [zcb]
         have h1:=zbZ hf
         rw [<-(get_mem hf).2] at h1;show (f.d++a.t).size+used (without D.f f.n)<=_;rw [ByteArray.size_append];omega
 split
 · unfold sync
   split
   · exact no 7 (by decide)
   · rename_i f hf
     refine za7 (by omega) (by omega) fun _=>⟨?_,?_⟩
     · have:=zbr D.f ⟨f.n,f.d,f.d.size⟩;have:=zbV D.f f.n;dsimp only at*;omega
     · rw [zcb]
       have h1:=zbZ hf
       rw [<-(get_mem hf).2] at h1;show f.d.size+used (without D.f f.n)<=_;omega
 split
 · unfold cut
   split
   · exact no 7 (by decide)
   · rename_i f hf
     split
     · exact no 6 (by decide)
     · refine za7 (by omega) (by omega) fun _=>⟨?_,?_⟩
       · have:=zbr D.f ⟨f.n,f.d.extract 0 a.i.toNat,min f.s a.i⟩;have:=zbV D.f f.n;dsimp only at*;omega
       · rw [zcb]
         have h1:=zbZ hf
         rw [<-(get_mem hf).2] at h1;show (f.d.extract 0 a.i.toNat).size+used (without D.f f.n)<=_;rw [ByteArray.size_extract];omega
 split
 · unfold rename
   split
   · exact no 7 (by decide)
   · rename_i f hf
     split
     · exact no 1 (by decide)
     · refine za7 (by omega) (by omega) fun _=>⟨?_,?_⟩
       · have:=zbr (without D.f a.n) ⟨a.t,f.d,f.s⟩;have:=zbV (without D.f a.n) a.t;have:=zbV D.f a.n;dsimp only at*;omega
       · rw [zcb]
         have h1:=zbZ hf
         have h2:=zbp (without D.f a.n) a.t;show f.d.size+used (without (without D.f a.n) a.t)<=_;omega
 split
 · unfold delete
   split
   · exact no 7 (by decide)
   · refine za7 (by omega) (by omega) fun _=>⟨?_,?_⟩
     · have:=zbV D.f a.n;omega
     · have:=zbp D.f a.n;omega
 split
 · exact ⟨Nat.le_succ _,Nat.le_add_right _ _⟩
 split
 · exact ⟨Nat.le_succ _,Nat.le_add_right _ _⟩
 · exact ⟨by show (zaA D.f a.e).length<=_;rw [zbB];omega,by have:=zdf D.f a.e;show used (zaA D.f a.e)<=_;omega⟩
end Dp
namespace Dsk
open Go.RowKit Dp
theorem za1 {D:Dk} {l:List Fl} {own:Int} (h:DkB D) (h0:0<=D.l):DkB (change D l own).1:=by
 obtain ⟨⟨h1,h2⟩,h3,h4⟩:=h
 rcases zaQ D l own with ⟨e,_⟩ | ⟨e,_⟩ | ⟨e,_⟩ | ⟨e,_,_,_,hd⟩ | ⟨e,_⟩
 all_goals rw [e]
 · exact ⟨⟨h1,h2⟩,h3,h4⟩
 · exact ⟨⟨h1,h2⟩,h3,h4⟩
 · exact ⟨⟨h1,h2⟩,h3,h4⟩
 · exact ⟨⟨h1,h2⟩,by show _<=D.l-1;omega,by show D.l-1<=_;omega⟩
 · exact ⟨⟨h1,h2⟩,h3,h4⟩
theorem act_dkb {D:Dk} {a:Dp.Act} (h:DkB D) (h0:0<=D.l) (hi:a.i<=9223372036854775807):DkB (act D a).1:=by
 unfold act
 split
 · unfold create
   split
   · exact za1 h h0
   · split<;>exact za1 h h0
 split
 · unfold append
   split
   · exact za1 h h0
   · split<;>exact za1 h h0
 split
 · unfold sync
   split<;>exact za1 h h0
 split
 · unfold cut
   split
   · exact za1 h h0
   · split<;>exact za1 h h0
 split
 · unfold rename
   split
   · exact za1 h h0
   · split<;>exact za1 h h0
 split
 · unfold delete
   split<;>exact za1 h h0
 obtain ⟨⟨h1,h2⟩,h3,h4⟩:=h
 split
 · exact ⟨⟨h1,h2⟩,by show _<=max a.i 0;omega,by show max a.i 0<=_;omega⟩
 split
 · exact ⟨⟨by show _<=max a.i 0;omega,by show max a.i 0<=_;omega⟩,h3,h4⟩
 · exact ⟨⟨h1,h2⟩,by show (-9223372036854775808:Int)<=0;omega,by show (0:Int)<=_;omega⟩
theorem za5 {W:World} {k:Nat} {T:TypeId} {a b c d e:Value} (h:W.heap[k]?=some (.cells #[a,b,c,d,e] T (0,0))) (x y z u t:Value):(set5 W k x y z u t).heap[k]?=some (.cells #[x,y,z,u,t] T (0,0)):=
 heap_setCell_same _ _ 4 _ _ t (heap_setCell_same _ _ 3 _ _ u (heap_setCell_same _ _ 2 _ _ z (heap_setCell_same _ _ 1 _ _ y (heap_setCell_same _ _ 0 _ _ x h))))
theorem Bd.mono {D:Dk} {k j:Nat} (h:Bd D k) (hj:k<=j):Bd D j:=⟨h.b,h.r,Nat.le_trans h.n hj,Nat.le_trans h.u (Nat.mul_le_mul_right _ hj)⟩
end Dsk
end Go.Proofs.YtgmppfpllogdcaaGreat

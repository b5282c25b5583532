/-
  Parts of what the laws of this seat stand on:DiskFind,DiskDel.
-/
import Derived.Test.YtooipogbmfkeeaaGreatQr1
import Derived.BigQuiet
import Derived.Deep.QuietTactic
import Derived.Deep.RegionLaw
import Derived.IntWalk
import Derived.Lib.Bytealg
import Derived.Lib.SliceRun
import Derived.Shelf.RegionOpenPlain
import Derived.Test.YtooipogbmfkeeaaGreatQr7
set_option maxRecDepth 100000
set_option maxHeartbeats 6400000
namespace Go.Proofs.YtooipogbmfkeeaaGreat
namespace Dp
def cmp (a b:ByteArray):Int:=Go.Lib.compareBytes a.data.toList b.data.toList
theorem cmpL3:∀(a b:List UInt8),(Go.Lib.compareBytes a b= -1/\a<b)\/(Go.Lib.compareBytes a b=0/\a=b)\/(Go.Lib.compareBytes a b=1/\b<a)
 | [],[]=> .inr (.inl ⟨rfl,rfl⟩)
 | [],_::_=> .inl ⟨rfl,List.nil_lt_cons ..⟩
 | _::_,[]=> .inr (.inr ⟨rfl,List.nil_lt_cons ..⟩)
 | a::xs,b::ys=>by
  unfold Go.Lib.compareBytes
  by_cases h1:a<b
  · exact .inl ⟨by rw [if_pos h1],List.cons_lt_cons_iff.2 (.inl h1)⟩
  · by_cases h2:b<a
    · exact .inr (.inr ⟨by rw [if_neg h1,if_pos h2],List.cons_lt_cons_iff.2 (.inl h2)⟩)
    · have e:a=b:=UInt8.le_antisymm (UInt8.not_lt.1 h2) (UInt8.not_lt.1 h1)
      rw [if_neg h1,if_neg h2]
      rcases cmpL3 xs ys with ⟨h,k⟩ | ⟨h,k⟩ | ⟨h,k⟩
      · exact .inl ⟨h,List.cons_lt_cons_iff.2 (.inr ⟨e,k⟩)⟩
      · exact .inr (.inl ⟨h,by rw [e,k]⟩)
      · exact .inr (.inr ⟨h,List.cons_lt_cons_iff.2 (.inr ⟨e.symm,k⟩)⟩)
theorem cmp3 (a b:ByteArray):(cmp a b= -1/\Lt a b)\/(cmp a b=0/\a=b)\/(cmp a b=1/\Lt b a):=by
 rcases cmpL3 a.data.toList b.data.toList with h | h | h
 · exact .inl h
 · exact .inr (.inl ⟨h.1,zdt.2 h.2⟩)
 · exact .inr (.inr h)
structure FoundF (l:List Fl) (c:ByteArray) (i:Nat) (b:Bool):Prop where
 le:i<=l.length
 lt:∀j (hj:j<l.length),j<i->Lt (l[j]).n c
 ge:∀j (hj:j<l.length),i<=j->¬Lt (l[j]).n c
 hit:b=true->∃h:i<l.length,(l[i]).n=c
 miss:b=false->∀h:i<l.length,(l[i]).n≠c
theorem Up.at {l:List Fl} (h:Up l) {i j:Nat} (hj:j<l.length) (hi:i<j):Lt (l[i]).n (l[j]).n:=List.pairwise_iff_getElem.1 h i j (by omega) hj hi
structure Between (l:List Fl) (c:ByteArray) (lo hi:Nat):Prop where
 le:lo<=hi
 ln:hi<=l.length
 lt:∀j (hj:j<l.length),j<lo->Lt (l[j]).n c
 ge:∀j (hj:j<l.length),hi<=j->¬Lt (l[j]).n c
theorem Between.start (l:List Fl) (c:ByteArray):Between l c 0 l.length:=⟨Nat.zero_le _,Nat.le_refl _,fun _ _ h=>absurd h (Nat.not_lt_zero _),fun j hj h=>by omega⟩
theorem zaF {l:List Fl} {k:Nat} {z:Fl} (h:k<l.length):l.getD k z=l[k]:=by simp [List.getD_eq_getElem?_getD,h]
theorem Between.up {l:List Fl} {c:ByteArray} {lo hi m:Nat} {z:Fl} (h:Between l c lo hi) (hu:Up l) (h2:m<hi) (hm:Lt (l.getD m z).n c):Between l c (m+1) hi:=by
 refine ⟨h2,h.ln,fun j hj hjm=>?_,h.ge⟩;have h3:=h.ln;rw [zaF (by omega)] at hm
 rcases Nat.lt_or_ge j m with h4 | h4
 · exact (hu.at (show m<l.length by omega) h4).trans hm
 · obtain rfl:j=m:=by omega
   exact hm
theorem Between.down {l:List Fl} {c:ByteArray} {lo hi m:Nat} {z:Fl} (h:Between l c lo hi) (hu:Up l) (h1:lo<=m) (h2:m<hi) (hm:¬Lt (l.getD m z).n c):Between l c lo m:=by
 have h3:=h.ln;refine ⟨h1,by omega,h.lt,fun j hj hjm=>?_⟩;rw [zaF (by omega)] at hm
 rcases Nat.lt_or_ge m j with h4 | h4
 · exact fun k=>hm ((hu.at hj h4).trans k)
 · obtain rfl:j=m:=by omega
   exact hm
theorem Between.hit {l:List Fl} {c:ByteArray} {i:Nat} {z:Fl} (h:Between l c i i) (hi:i<l.length) (hm:(l.getD i z).n=c):FoundF l c i true:=by
 rw [zaF hi] at hm;exact ⟨h.ln,h.lt,h.ge,fun _=>⟨hi,hm⟩,fun h0=>by cases h0⟩
theorem Between.miss {l:List Fl} {c:ByteArray} {i:Nat} {z:Fl} (h:Between l c i i) (hm:i<l.length->(l.getD i z).n≠c):FoundF l c i false:=by
 refine ⟨h.ln,h.lt,h.ge,fun h0=>(by cases h0),fun _ hi he=>hm hi ?_⟩;rw [zaF hi,he]
theorem FoundF.parts {l:List Fl} {c:ByteArray} {i:Nat} {b:Bool} (h:FoundF l c i b) (hu:Up l):
 (∀f∈l.take i,Lt f.n c)/\(∀f∈l.drop i,¬Lt f.n c)/\(∀f∈l.drop (i+1),Lt c f.n)/\(b=false->∀f∈l.drop i,Lt c f.n):=by
 refine ⟨fun f hf=>?_,fun f hf=>?_,fun f hf=>?_,fun hb f hf=>?_⟩
 · obtain ⟨j,hj,rfl⟩:=List.mem_take_iff_getElem.1 hf
   exact h.lt j (by omega) (by omega)
 · obtain ⟨j,hj,rfl⟩:=List.mem_drop_iff_getElem.1 hf
   exact h.ge _ (by omega) (by omega)
 · obtain ⟨j,hj,rfl⟩:=List.mem_drop_iff_getElem.1 hf
   have hg:=h.ge i (by omega) (Nat.le_refl _)
   have ha:=hu.at (i:=i) (j:=i+1+j) (by omega) (by omega)
   rcases zg0 (l[i]'(by omega)).n c with k | k | k
   · exact absurd k hg
   · rw [<-k];exact ha
   · exact k.trans ha
 · obtain ⟨j,hj,rfl⟩:=List.mem_drop_iff_getElem.1 hf
   have hg:=h.ge i (by omega) (Nat.le_refl _)
   have hi:Lt c (l[i]'(by omega)).n:=by
    rcases zg0 (l[i]'(by omega)).n c with k | k | k
    · exact absurd k hg
    · exact absurd k (h.miss hb _)
    · exact k
   by_cases h0:j=0
   · subst h0;exact hi
   · exact hi.trans (hu.at (i:=i) (j:=i+j) (by omega) (by omega))
theorem zbS {l:List Fl} {p:Fl->Bool} (h:∀f∈l,p f=true):l.filter p=l:=List.filter_eq_self.2 h
theorem zb1 {l:List Fl} {p:Fl->Bool} (h:∀f∈l,p f=false):l.filter p=[]:=List.filter_eq_nil_iff.2 (fun f hf=>by rw [h f hf];decide)
theorem FoundF.get {l:List Fl} {c:ByteArray} {i:Nat} {b:Bool} (h:FoundF l c i b) (hu:Up l) (z:Fl):get l c=if b then some (l.getD i z) else none:=by
 rcases b with _ | _
 · refine get_none.2 fun f hf he=>?_
   rw [<-List.take_append_drop i l] at hf
   rcases List.mem_append.1 hf with k | k
   · exact ((h.parts hu).1 f k).ne he
   · exact ((h.parts hu).2.2.2 rfl f k).ne he.symm
 · obtain ⟨hi,he⟩:=h.hit rfl
   rw [zaF hi]
   have:=zdl hu (List.getElem_mem hi);rw [he] at this
   simpa using this
theorem ziH {l:List Fl} {i:Nat} (h:i<l.length) (z:Fl):l=l.take i++[l.getD i z]++l.drop (i+1):=by
 rw [zaF h,List.append_assoc,List.singleton_append, <-List.drop_eq_getElem_cons h,List.take_append_drop]
theorem FoundF.with_hit {l:List Fl} {c:ByteArray} {i:Nat} (h:FoundF l c i true) (hu:Up l) {f:Fl} (hf:f.n=c):withF l f=l.take i++[f]++l.drop (i+1):=by
 obtain ⟨hi,he⟩:=h.hit rfl;obtain ⟨p1,_,p3,_⟩:=h.parts hu;have e:=ziH hi (l[i]);unfold withF;rw [hf,e,List.filter_append,List.filter_append,List.filter_append,List.filter_append, <-e]
 have hm:(l.getD i l[i]).n=c:=by rw [zaF hi,he]
 rw [zbS (l:=l.take i) (p:=fun g=>decide (Lt g.n c)) (fun g hg=>decide_eq_true (p1 g hg)),zb1 (l:=[l.getD i l[i]]) (fun g hg=>by rw [List.mem_singleton.1 hg,hm];exact decide_eq_false (Lt.irrefl c)),
  zb1 (l:=l.drop (i+1)) (fun g hg=>decide_eq_false (p3 g hg).asymm),zb1 (l:=l.take i) (fun g hg=>decide_eq_false (p1 g hg).asymm),zb1 (l:=[l.getD i l[i]]) (p:=fun g=>decide (Lt c g.n)) (fun g hg=>by rw [List.mem_singleton.1 hg,hm];exact decide_eq_false (Lt.irrefl c)),zbS (l:=l.drop (i+1)) (fun g hg=>decide_eq_true (p3 g hg))]
 simp
theorem FoundF.with_miss {l:List Fl} {c:ByteArray} {i:Nat} (h:FoundF l c i false) (hu:Up l) {f:Fl} (hf:f.n=c):withF l f=l.take i++[f]++l.drop i:=by
 obtain ⟨p1,_,_,p4⟩:=h.parts hu;have p4:=p4 rfl;have e:=(List.take_append_drop i l).symm;unfold withF;rw [hf,e,List.filter_append,List.filter_append, <-e]
 rw [zbS (l:=l.take i) (p:=fun g=>decide (Lt g.n c)) (fun g hg=>decide_eq_true (p1 g hg)),zb1 (l:=l.drop i) (fun g hg=>decide_eq_false (p4 g hg).asymm),
  zb1 (l:=l.take i) (fun g hg=>decide_eq_false (p1 g hg).asymm),zbS (l:=l.drop i) (fun g hg=>decide_eq_true (p4 g hg))]
 simp
theorem FoundF.wo {l:List Fl} {c:ByteArray} {i:Nat} (h:FoundF l c i true) (hu:Up l):without l c=l.take i++l.drop (i+1):=by
 obtain ⟨hi,he⟩:=h.hit rfl;obtain ⟨p1,_,p3,_⟩:=h.parts hu;have e:=ziH hi (l[i])
 have hm:(l.getD i l[i]).n=c:=by rw [zaF hi,he]
 unfold without;rw [e,List.filter_append,List.filter_append, <-e,zbS (l:=l.take i) (fun g hg=>decide_eq_true (p1 g hg).ne),zb1 (l:=[l.getD i l[i]]) (fun g hg=>by rw [List.mem_singleton.1 hg];exact decide_eq_false (fun k=>k hm)),zbS (l:=l.drop (i+1)) (p:=fun f=>decide (f.n≠c)) (fun g hg=>decide_eq_true (fun k=>(p3 g hg).ne k.symm))]
 simp
end Dp
namespace Dsk
open Go.RowKit Dp
theorem zj8 (a b:ByteArray) (w:World):Calls Tryz.prog 138 #[.string a,.string b] w fun e w'=>e= .returned (.int .i64 (cmp a b))/\w=w':=by
 go_enter Tryz.func138,Tryz.ntmps138
 go_wp2
 rw [run_callFunc_extern Tryz.func154 (by kernel_rfl) (by kernel_rfl) (by kernel_rfl) (e:=Extern.BytealgCompare.compare) (by kernel_rfl),Lib.run_compareString];simp only [Result.andThen];rw [Oper.upon_value]
 go_wp2
 go_ret;exact ⟨rfl,rfl⟩
theorem zgC (a b:ByteArray) (w:World):Calls Tryz.prog 111 #[.string a,.string b] w fun e w'=>e= .returned (.int .i64 (cmp a b))/\w=w':=by
 have C:=zid (zj8 a b)
 go_enter Tryz.func111,Tryz.ntmps111
 go_wp2_with fail;refine (C.out _).mono ?_;rintro e w' ⟨rfl,rfl⟩;go_wp2_with fail;go_ret;exact ⟨rfl,rfl⟩
theorem zfr (n d:ByteArray) (s:Int) (c:ByteArray) (w:World):Calls Tryz.prog 82 #[.agg #[.string n,.string d,.int .i64 s],.string c] w fun e w'=>e= .returned (.int .i64 (cmp n c))/\Below w.heap.size w w':=by
 have C:=zid fun (W:World)=>zgC n c W
 go_enter Tryz.func82,Tryz.ntmps82
 go_wp2_with fail;refine (C.out _).mono ?_;rintro e w' ⟨rfl,rfl⟩;go_wp2_with fail;go_ret;exact ⟨rfl,(Below.refl _ _).alloc (Nat.le_refl _) _⟩
def zbh (w:World) (l:List Fl) (c:ByteArray) (e:Ending) (w':World):Prop:=
 ∃(i:Nat) (b:Bool),e= .returned (.tuple #[.int .i64 (i:Int),.bool b])/\FoundF l c i b/\Below w.heap.size w w'
theorem zbh.mk {w w':World} {l:List Fl} {c:ByteArray} {i:Nat} {b:Bool} (h:FoundF l c i b) (hb:Below w.heap.size w w'):zbh w l c (.returned (.tuple #[.int .i64 (i:Int),.bool b])) w':=⟨i,b,rfl,h,hb⟩
theorem zhJ (l:List Fl) (c:ByteArray) (b off cap:Nat) (w:World) (hu:Up l) (hl:l.length<=1000000000000) (h:IsL FL w (.slice (some ⟨b,off,none⟩) l.length cap) l):
 Calls Tryz.prog 81 #[.slice (some ⟨b,off,none⟩) l.length cap,.string c,.func (.func 82) #[] #[]] w (zbh w l c):=by
 have HC:=zid fun i (hi:i<l.length)=>at3 h hi;have HU:=zid hu;have HS:=zid (Between.start l c);clear h hu;obtain ⟨len,hlen⟩:∃len,l.length=len:=⟨_,rfl⟩;rw [hlen] at hl HC HS ⊢;have HL:=zid hlen;clear hlen
 go_enter Tryz.func81,Tryz.ntmps81
 go_wp2_with fail
 go_loopw [9,10] (fun x y wr=>∃lo hi:Nat,hi<=len/\x= .int .i64 lo/\y= .int .i64 hi/\Between l c lo hi/\Below w.heap.size w wr) (fun x y _=>(intOf y).toNat-(intOf x).toNat)
 case atStart=>exact ⟨0,len,Nat.le_refl _,rfl,rfl,HS.out,Below.refl _ _⟩
 case round=>
  obtain ⟨lo,hi,hhi,rfl,rfl,hB,bel⟩:=hrel;have HB:=zid hB;have hle:=hB.le;clear hB
  by_cases hlt:lo<hi
  · obtain ⟨m,hm⟩:∃m,(lo+hi)/2=m:=⟨_,rfl⟩
    have hm1:lo<=m:=by omega
    have hm2:m<hi:=by omega
    have hmi:((lo:Int)+(hi:Int))/2=(m:Int):=by omega
    obtain ⟨c0,c1,c2⟩:=HC.out m (by omega);have hbb:=block_lt_of_cell c0
    have z0:wr.cell? ⟨b,off+m*3,none⟩=some (.string (l.getD m zero).n):=by rw [bel.cell (p:=⟨b,off+m*3,none⟩) hbb];exact c0
    have z1:wr.cell? ⟨b,off+m*3+1,none⟩=some (.string (l.getD m zero).d):=by rw [bel.cell (p:=⟨b,off+m*3+1,none⟩) hbb];exact c1
    have z2:wr.cell? ⟨b,off+m*3+2,none⟩=some (.int .i64 (l.getD m zero).s):=by rw [bel.cell (p:=⟨b,off+m*3+2,none⟩) hbb];exact c2
    clear c0 c1 c2 hm;have BUP:=zid fun h=>HB.out.up (z:=zero) HU.out hm2 h;have BDN:=zid fun h=>HB.out.down (z:=zero) HU.out hm1 hm2 h;generalize l.getD m zero=p at*;have C:=fun W:World=>zfr p.n p.d p.s c W
    rcases cmp3 p.n c with ⟨hq,hcm⟩ | ⟨hq,hcm⟩ | ⟨hq,hcm⟩
    · rw [hq] at C
      have C:=zid C
      have HN:=zid (BUP.out hcm);clear hcm hq;go_wp2_with fail;refine (C.out _).mono ?_;rintro e w1 ⟨rfl,b1⟩;go_wp2_with fail
      go_roundw
      case rel=>exact ⟨m+1,hi,hhi,by go_num,rfl,HN.out,bel.trans (b1.mono bel.size)⟩
      case measure=>simp [intOf];omega
    · rw [hq] at C
      have C:=zid C
      have HN:=zid (BDN.out (fun k=>k.ne hcm));clear hcm hq;go_wp2_with fail;refine (C.out _).mono ?_;rintro e w1 ⟨rfl,b1⟩;go_wp2_with fail
      go_roundw
      case rel=>exact ⟨lo,m,by omega,rfl,rfl,HN.out,bel.trans (b1.mono bel.size)⟩
      case measure=>simp [intOf];omega
    · rw [hq] at C
      have C:=zid C
      have HN:=zid (BDN.out hcm.asymm);clear hcm hq;go_wp2_with fail;refine (C.out _).mono ?_;rintro e w1 ⟨rfl,b1⟩;go_wp2_with fail
      go_roundw
      case rel=>exact ⟨lo,m,by omega,rfl,rfl,HN.out,bel.trans (b1.mono bel.size)⟩
      case measure=>simp [intOf];omega
  · obtain rfl:hi=lo:=by omega
    by_cases hn:hi<len
    · obtain ⟨c0,c1,c2⟩:=HC.out hi hn
      have hbb:=block_lt_of_cell c0
      have z0:wr.cell? ⟨b,off+hi*3,none⟩=some (.string (l.getD hi zero).n):=by rw [bel.cell (p:=⟨b,off+hi*3,none⟩) hbb];exact c0
      have z1:wr.cell? ⟨b,off+hi*3+1,none⟩=some (.string (l.getD hi zero).d):=by rw [bel.cell (p:=⟨b,off+hi*3+1,none⟩) hbb];exact c1
      have z2:wr.cell? ⟨b,off+hi*3+2,none⟩=some (.int .i64 (l.getD hi zero).s):=by rw [bel.cell (p:=⟨b,off+hi*3+2,none⟩) hbb];exact c2
      clear c0 c1 c2;have BH:=zid fun h=>HB.out.hit (z:=zero) (by rw [HL.out];exact hn) h;have BM:=zid fun h=>HB.out.miss (z:=zero) h;generalize l.getD hi zero=p at*;have C:=fun W:World=>zfr p.n p.d p.s c W
      obtain ⟨q,hq,HN⟩:∃q,cmp p.n c=q/\Hid (FoundF l c hi (q==0)):=by
       rcases cmp3 p.n c with ⟨hq,hcm⟩ | ⟨hq,hcm⟩ | ⟨hq,hcm⟩
       · exact ⟨_,hq,BM.out fun _=>hcm.ne⟩
       · exact ⟨_,hq,BH.out hcm⟩
       · exact ⟨_,hq,BM.out fun _ k=>hcm.ne k.symm⟩
      rw [hq] at C;have C:=zid C;clear hq;go_wp2_with fail;refine (C.out _).mono ?_;rintro e w1 ⟨rfl,b1⟩;go_wp2_with fail;go_ret2;exact zbh.mk HN.out (bel.trans (b1.mono bel.size))
    · have HN:=zid (HB.out.miss (z:=zero) fun h=>absurd h (by rw [HL.out];exact hn))
      go_wp2_with fail
      go_ret2;exact zbh.mk HN.out bel
theorem zhK (a:Option Addr) (cap:Nat) (c:ByteArray) (w:World):
 Calls Tryz.prog 81 #[.slice a 0 cap,.string c,.func (.func 82) #[] #[]] w (zbh w [] c):=by
 have HN:=zid ((Between.start [] c).miss (z:=zero) fun h=>absurd h (by simp))
 go_enter Tryz.func81,Tryz.ntmps81
 go_wp2_with fail;refine wp_loop_rounds 1 ?_;rw [rounds_succ];go_wp2_with fail;go_ret2;exact zbh.mk HN.out (Below.refl _ _)
theorem zjv (v:Value) (l:List Fl) (c:ByteArray) (w:World) (hu:Up l) (hl:l.length<=1000000000000) (h:IsL FL w v l):
 Calls Tryz.prog 81 #[v,.string c,.func (.func 82) #[] #[]] w (zbh w l c):=by
 have h':=h;obtain ⟨a,cap,rfl,_,_,h3⟩:=h
 rcases h3 with rfl | ⟨b,off,rfl,h4⟩
 · exact zhK a cap c w
 · exact zhJ l c b off cap w hu hl h'
theorem zbN (v:Value) (l:List Fl) (c:ByteArray) (w:World) (hu:Up l) (hl:l.length<=1000000000000) (h:IsL FL w v l):
 Calls Tryz.prog 47 #[v,.string c] w (zbh w l c):=by
 have C:=zid (zjv v l c w hu hl h);obtain ⟨a,cap,rfl,_⟩:=h;clear hu hl
 go_enter Tryz.func47,Tryz.ntmps47
 go_wp2_with fail;refine C.out.mono ?_;rintro e w' ⟨i,b,rfl,hf,hb⟩;have HF:=zid (zbh.mk (w:=w) (l:=l) (c:=c) hf hb);clear hf hb;go_wp2_with fail;go_ret2;exact HF.out
theorem zds (n:ByteArray) (w:World) (hn:n.size<=9223372036854775807):
 Calls Tryz.prog 140 #[.string n] w fun e w'=>e= .returned (.bool (decide (Named n)))/\w=w':=by
 by_cases h1:1<=n.size
 · have i1:(1:Int)<=(n.size:Int):=by omega
   by_cases h2:n.size<=32
   · have i2:(n.size:Int)<=32:=by omega
     rw [decide_eq_true (show Named n from ⟨h1,h2⟩)]
     go_enter Tryz.func140,Tryz.ntmps140
     go_wp2_with fail;go_ret;exact ⟨by simp_all,rfl⟩
   · have i2:¬((n.size:Int)<=32):=by omega
     rw [decide_eq_false (show ¬Named n from fun h=>h2 h.2)]
     go_enter Tryz.func140,Tryz.ntmps140
     go_wp2_with fail;go_ret;exact ⟨by simp_all,rfl⟩
 · have i1:¬((1:Int)<=(n.size:Int)):=by omega
   rw [decide_eq_false (show ¬Named n from fun h=>h1 h.1)]
   go_enter Tryz.func140,Tryz.ntmps140
   go_wp2_with fail;go_ret;exact ⟨by simp_all,rfl⟩
theorem zgW (n:ByteArray) (w:World) (hn:n.size<=9223372036854775807):
 Calls Tryz.prog 20 #[.string n] w fun e w'=>e= .returned (.bool (decide (Named n)))/\w=w':=by
 by_cases h1:1<=n.size
 · have i1:(1:Int)<=(n.size:Int):=by omega
   by_cases h2:n.size<=32
   · have i2:(n.size:Int)<=32:=by omega
     rw [decide_eq_true (show Named n from ⟨h1,h2⟩)]
     go_enter Tryz.func20,Tryz.ntmps20
     go_wp2_with fail;go_ret;exact ⟨by simp_all,rfl⟩
   · have i2:¬((n.size:Int)<=32):=by omega
     rw [decide_eq_false (show ¬Named n from fun h=>h2 h.2)]
     go_enter Tryz.func20,Tryz.ntmps20
     go_wp2_with fail;go_ret;exact ⟨by simp_all,rfl⟩
 · have i1:¬((1:Int)<=(n.size:Int)):=by omega
   rw [decide_eq_false (show ¬Named n from fun h=>h1 h.1)]
   go_enter Tryz.func20,Tryz.ntmps20
   go_wp2_with fail;go_ret;exact ⟨by simp_all,rfl⟩
end Dsk
namespace Dsk
open Go.RowKit Go.Lib
def noughts:List Value:=[.string ⟨#[]⟩,.string ⟨#[]⟩,.int .i64 0]
theorem zero_fl:∀w,(zeroValue 45).run Tryz.prog w= .ok (.agg #[.string ⟨#[]⟩,.string ⟨#[]⟩,.int .i64 0]) w:=fun w=>by kernel_rfl
theorem zlT (n cap i j g:Nat) (cur:Array Value) (xs:List Value) (w:World) (hij:j=i+1) (hj:j<=n) (hnc:n<=cap)
 (hg:w.heap[g]?=some (.cells cur 45 (0,0))) (hs:cur.size=cap*3) (ht:cur.toList.take (n*3)=xs) (h1:∀u∈xs,u.oneCell'=true):
 Calls Tryz.prog 113 #[.slice (some ⟨g,0,none⟩) n cap,.int .i64 (i:Int),.int .i64 (j:Int)] w fun e w'=>
  e= .returned (.slice (some ⟨g,0,none⟩) (i+(n-j)) cap)/\w'=(w.drew.setCells g (i*3) (xs.drop (j*3))).setCells g ((i+(n-j))*3) noughts:=by
 have mixed:Tryz.prog.follows Departure.mixedOrders=true:=by kernel_rfl
 obtain ⟨i0,hi0,hz0,hz1,hz2⟩:=info_parts zcD
 have hxl:xs.length=n*3:=by rw [<-ht,List.length_take,Array.length_toList];omega
 obtain ⟨news,hnews⟩:∃news,news=xs.drop (j*3):=⟨_,rfl⟩
 have hnl:news.length=(n-j)*3:=by rw [hnews,List.length_drop,hxl];omega
 have hgd:w.drew.heap[g]?=some (.cells cur 45 (0,0)):=hg
 obtain ⟨A,hA,hsrc⟩:∃A:Addr,(if cap=j then some (⟨g,0,none⟩:Addr) else some ⟨g,j*3,none⟩)=some A/\Hid (∀t u,news[t]?=some u->w.drew.cell? (A.add t)=some u):=by
  by_cases h:cap=j
  · refine ⟨⟨g,0,none⟩,by simp [h],fun t u hu=>?_⟩
    have h0:news.length=0:=by rw [hnl];omega
    rw [List.length_eq_zero_iff.1 h0] at hu;simp at hu
  · refine ⟨⟨g,j*3,none⟩,by simp [h],fun t u hu=>?_⟩
    rw [zak]
    rw [hnews] at hu;exact zdz hgd ht t u hu
 have s1:Hid (news.length=(n-j)*3):=hnl
 have s2:Hid (∀u∈news,u.oneCell'=true):=by
  intro u hu;rw [hnews] at hu;exact h1 u (List.mem_of_mem_drop hu)
 have s3:Hid (∀t,t<news.length->(w.drew.cell? ⟨g,0+i*3+t,none⟩).isSome=true/\w.drew.frozen? ⟨g,0+i*3+t,none⟩=false):=by
  intro t htl;rw [hnl] at htl;exact zaM hgd _ (by omega)
 obtain ⟨W1,hW1⟩:∃W1,W1=w.drew.setCells g (i*3) news:=⟨_,rfl⟩
 have hg1:W1.heap[g]?=some (.cells (splice cur (i*3) news) 45 (0,0)):=by rw [hW1];exact zar hgd (by rw [hnl];omega)
 have hsz1:(splice cur (i*3) news).size=cap*3:=by rw [zay (by rw [hnl];omega)];exact hs
 have hcl:∀ty c,(Builtin.clear_ #[22] ty #[.slice (some ⟨g,(i+(n-j))*3,none⟩) (n-(i+(n-j))) c]).run Tryz.prog W1= .ok (.tuple #[]) (W1.setCells g ((i+(n-j))*3) noughts):=by
  intro ty c;rw [show n-(i+(n-j))=1 from by omega]
  refine zfG W1 _ _ ty _ noughts Tryz.underlying22 zero_fl (by kernel_rfl) (by intro v hv;simp [noughts] at hv;rcases hv with rfl | rfl | rfl<;>rfl) g _ c (fun t htl=>?_)
  have:noughts.length=3:=rfl;exact zaM hg1 _ (by omega)
 have hW:Hid (W1=w.drew.setCells g (0+i*3) news):=by rw [Nat.zero_add];exact hW1
 have HX:Hid (W1=w.drew.setCells g (i*3) (xs.drop (j*3))):=by rw [<-hnews];exact hW1
 have hic:i<=cap:=by omega
 have hjc:j<=cap:=by omega
 have hlt:i<j:=by omega
 have hne:¬((i:Int)=(j:Int)):=by omega
 clear hij hW1 hg1 hgd hnews hnl ht hs hxl hg h1
 go_enter Tryz.func113,Tryz.ntmps113
 go_wp2_with fail
 go_region_law_o (refine step_append_room rfl (.tmp 22) (.tmp 25) 22 rfl 45 i0 3 Tryz.underlying22 hi0 hz1 g 0 i cap (by simp [Act.eval,Act.put]) A (n-j) (cap-j) news (by simp [Act.eval,Act.put]) s1.out hsrc.out s2.out (by omega) s3.out ?_;rw [<-hW.out])
 go_wp2
 go_ret;exact ⟨rfl,by rw [HX.out]⟩
end Dsk
end Go.Proofs.YtooipogbmfkeeaaGreat

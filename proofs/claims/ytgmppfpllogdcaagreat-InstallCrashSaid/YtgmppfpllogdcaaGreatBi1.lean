/-
  Parts of what the laws of this seat stand on:Base,DiskPlain,NamePlain,VarPlain,CrcPlain.
-/
import Derived.Below
import Derived.Deep.QuietTactic
import Derived.Laws.NewBlocks
import Derived.Laws.Rows
import Derived.Lib.Hide
import Derived.Test.YtgmppfpllogdcaaGreatProg
import Derived.WalkKit
import Derived.WalkSpells
set_option maxRecDepth 100000
set_option maxHeartbeats 6400000
namespace Go.Proofs.YtgmppfpllogdcaaGreat
section
theorem mcs {α:Type} {a:α} {l:List α}:a∈a::l:=List.mem_cons_self
theorem mcm {α:Type} {a b:α} {l:List α} (h:a∈l):a∈b::l:=List.mem_cons_of_mem b h
theorem zid {p:Prop} (h:p):Go.RowKit.Hid p:=Lib.hid h
end
section
open Go.RowKit
theorem zae {w:World} (n:Nat):Below w.heap.size w (w.drewN n):=by
 induction n generalizing w with
 | zero=>exact Below.refl _ _
 | succ n ih=>exact ih.drew
theorem zah {w w1 w2:World} (h:Below w.heap.size w w1) (k:Below w1.heap.size w1 w2):Below w.heap.size w w2:=h.trans (k.mono h.size)
theorem zap {w w':World} {o:Obj} (h:Below (w.alloc o).heap.size (w.alloc o) w'):Below w.heap.size w w':=
 ((Below.refl _ _).alloc (Nat.le_refl _) _).trans (h.mono (by simp))
theorem zau {w w':World} {base:Nat} {e:TypeId} {size:Nat} {v:Value} {n:Nat} {xs:List Value} (h:w.ownsRow base e size v n xs) (b:Below w.heap.size w w'):w'.ownsRow base e size v n xs:=by
 refine h.kept (row:=none) ⟨b.os,b.tape,b.output,b.size,fun k hk _=>b.block k hk⟩ ?_
 cases v.ownBlock with
 | none=>exact .inl rfl
 | some k=>exact .inr (by simp)
theorem zd6 (s:ByteArray) (a b:Nat):(s.extract a b).data.toList=(s.data.toList.drop a).take (b-a):=by
 simp
theorem mk_ext (s:ByteArray) (k j m:Nat):s.extract (k+j) (k+j+m)=⟨(((s.data.toList.drop k).drop j).take m).toArray⟩:=by
 apply ByteArray.ext
 apply Array.ext'
 rw [zd6]
 simp [List.drop_drop]
theorem zaO (l:List UInt8):(ByteArray.mk l.toArray).size=l.length:=by simp [ByteArray.size]
theorem ext_drop (s:ByteArray) (q:Nat):(⟨(s.data.toList.drop q).toArray⟩:ByteArray)=s.extract q s.size:=by
 apply ByteArray.ext
 apply Array.ext'
 rw [zd6,List.take_of_length_le (by simp)]
theorem bcell {W w1:World} (hb:Below W.heap.size W w1):(∀b o,b<W.heap.size->w1.cell? ⟨b,o,none⟩=W.cell? ⟨b,o,none⟩)/\(∀b o,b<W.heap.size->w1.frozen? ⟨b,o,none⟩=W.frozen? ⟨b,o,none⟩):=
 ⟨fun b o h=>hb.cell (p:=⟨b,o,none⟩) h,fun b o h=>hb.frozen (p:=⟨b,o,none⟩) h⟩
theorem zak (b off j:Nat):(⟨b,off,none⟩:Addr).add j=⟨b,off+j,none⟩:=by
 unfold Addr.add
 split<;>simp_all
theorem zdA {w w1 w2:World} {x y z:Value} (h:w1.cell? ⟨w.heap.size,0,none⟩=some x/\w1.cell? ⟨w.heap.size,1,none⟩=some y/\w1.cell? ⟨w.heap.size,2,none⟩=some z/\Below w.heap.size w w1)
 (b:Below w1.heap.size w1 w2):w2.cell? ⟨w.heap.size,0,none⟩=some x/\w2.cell? ⟨w.heap.size,1,none⟩=some y/\w2.cell? ⟨w.heap.size,2,none⟩=some z/\Below w.heap.size w w2:=by
 obtain ⟨h0,h1,h2,hb⟩:=h;have hl:=block_lt_of_cell h0;exact ⟨(b.cell (p:=⟨w.heap.size,0,none⟩) hl).trans h0,(b.cell (p:=⟨w.heap.size,1,none⟩) hl).trans h1,(b.cell (p:=⟨w.heap.size,2,none⟩) hl).trans h2,hb.trans (b.mono hb.size)⟩
theorem zfN (w:World) (x y z:Value) (T:TypeId):(w.alloc (.cells #[x,y,z] T)).cell? ⟨w.heap.size,0,none⟩=some x/\(w.alloc (.cells #[x,y,z] T)).cell? ⟨w.heap.size,1,none⟩=some y/\(w.alloc (.cells #[x,y,z] T)).cell? ⟨w.heap.size,2,none⟩=some z/\Below w.heap.size w (w.alloc (.cells #[x,y,z] T)):=
 ⟨by unfold World.cell?;rw [heap_alloc_new];rfl,by unfold World.cell?;rw [heap_alloc_new];rfl,by unfold World.cell?;rw [heap_alloc_new];rfl,(Below.refl _ _).alloc (Nat.le_refl _) _⟩
end
namespace Dp
structure Fl where
 n:ByteArray
 d:ByteArray
 s:Int
structure Dk where
 f:List Fl
 c:Int
 a:Bool
 l:Int
 x:Bool
def Lt (a b:ByteArray):Prop:=a.data.toList<b.data.toList
instance (a b:ByteArray):Decidable (Lt a b):=inferInstanceAs (Decidable (a.data.toList<b.data.toList))
theorem zez {a b:ByteArray}:a=b↔a.data.toList=b.data.toList:=
 ⟨fun h=>by rw [h],fun h=>ByteArray.ext (Array.ext' h)⟩
instance (a b:ByteArray):Decidable (a=b):=decidable_of_iff _ zez.symm
theorem Lt.irrefl (a:ByteArray):¬Lt a a:=List.lt_irrefl _
theorem Lt.trans {a b c:ByteArray} (h:Lt a b) (k:Lt b c):Lt a c:=List.lt_trans h k
theorem Lt.asymm {a b:ByteArray} (h:Lt a b):¬Lt b a:=fun k=>Lt.irrefl a (h.trans k)
theorem Lt.ne {a b:ByteArray} (h:Lt a b):a≠b:=fun e=>Lt.irrefl b (e▸h)
theorem zgH (a b:ByteArray):Lt a b\/a=b\/Lt b a:=by
 by_cases h:Lt a b
 · exact .inl h
 · by_cases k:Lt b a
   · exact .inr (.inr k)
   · exact .inr (.inl (zez.2 (List.le_antisymm (List.not_lt.1 k) (List.not_lt.1 h))))
def Named (n:ByteArray):Prop:=1<=n.size/\n.size<=32
instance (n:ByteArray):Decidable (Named n):=inferInstanceAs (Decidable (_/\_))
def Up (l:List Fl):Prop:=l.Pairwise fun a b=>Lt a.n b.n
def FOk (f:Fl):Prop:=Named f.n/\0<=f.s/\f.s<=(f.d.size:Int)
def Right (D:Dk):Prop:=(∀f∈D.f,FOk f)/\Up D.f/\0<=D.c/\0<=D.l
def get (l:List Fl) (n:ByteArray):Option Fl:=l.find? fun f=>decide (f.n=n)
def without (l:List Fl) (n:ByteArray):List Fl:=l.filter fun f=>decide (f.n≠n)
def withF (l:List Fl) (f:Fl):List Fl:=(l.filter fun g=>decide (Lt g.n f.n))++[f]++(l.filter fun g=>decide (Lt f.n g.n))
def used (l:List Fl):Nat:=(l.map fun f=>f.d.size).sum
def change (D:Dk) (l:List Fl) (own:Int):Dk×Int:=
 if D.x=true then (D,10) else if own≠0 then (D,own) else if D.a=true/\D.l=0 then ({D with x:=true},10)
 else if D.a=true then ({D with f:=l,l:=D.l-1},0) else ({D with f:=l},0)
def create (D:Dk) (n:ByteArray):Dk×Int:=
 if ¬Named n then change D [] 1 else if (get D.f n).isSome then change D [] 8 else change D (withF D.f ⟨n,⟨#[]⟩,0⟩) 0
def append (D:Dk) (n s:ByteArray):Dk×Int:=
 match get D.f n with
 | none=>change D [] 7
 | some f=>if 0<D.c/\D.c<(used D.f:Int)+(s.size:Int) then change D [] 9 else change D (withF D.f ⟨f.n,f.d++s,f.s⟩) 0
def sync (D:Dk) (n:ByteArray):Dk×Int:=
 match get D.f n with
 | none=>change D [] 7
 | some f=>change D (withF D.f ⟨f.n,f.d,f.d.size⟩) 0
def cut (D:Dk) (n:ByteArray) (k:Int):Dk×Int:=
 match get D.f n with
 | none=>change D [] 7
 | some f=>if k<0\/(f.d.size:Int)<k then change D [] 6 else change D (withF D.f ⟨f.n,f.d.extract 0 k.toNat,min f.s k⟩) 0
def rename (D:Dk) (n m:ByteArray):Dk×Int:=
 match get D.f n with
 | none=>change D [] 7
 | some f=>if ¬Named m then change D [] 1 else change D (withF (without D.f n) ⟨m,f.d,f.s⟩) 0
def delete (D:Dk) (n:ByteArray):Dk×Int:=
 match get D.f n with
 | none=>change D [] 7
 | some _=>change D (without D.f n) 0
def arm (D:Dk) (k:Int):Dk:={D with a:=decide (0<=k),l:=max k 0}
def limit (D:Dk) (k:Int):Dk:={D with c:=max k 0}
def left (f:Fl) (k:Int):Fl:=let m:=f.s+max 0 (min k ((f.d.size:Int)-f.s));⟨f.n,f.d.extract 0 m.toNat,(f.d.extract 0 m.toNat).size⟩
def zaA:List Fl->List Int->List Fl
 | [],_=>[]
 | f::l,[]=>left f 0::zaA l []
 | f::l,k::r=>left f k::zaA l r
def crash (D:Dk) (keep:List Int):Dk:=⟨zaA D.f keep,D.c,false,0,false⟩
structure Act where
 k:Int
 i:Int
 n:ByteArray
 t:ByteArray
 e:List Int
def act (D:Dk) (a:Act):Dk×Int:=
 if a.k=0 then create D a.n else if a.k=1 then append D a.n a.t else if a.k=2 then sync D a.n else if a.k=3 then cut D a.n a.i
 else if a.k=4 then rename D a.n a.t else if a.k=5 then delete D a.n else if a.k=6 then (arm D a.i,0) else if a.k=7 then (limit D a.i,0) else (crash D a.e,0)
def empty:Dk:=⟨[],0,false,0,false⟩
theorem Right.empty:Right empty:=⟨by simp [Dp.empty],List.Pairwise.nil,by simp [Dp.empty],by simp [Dp.empty]⟩
theorem Up.filter {l:List Fl} (h:Up l) (p:Fl->Bool):Up (l.filter p):=List.Pairwise.filter _ h
theorem zbH {l:List Fl} {f g:Fl}:g∈withF l f↔(g∈l/\g.n≠f.n)\/g=f:=by
 unfold withF;rw [List.mem_append,List.mem_append,List.mem_filter,List.mem_filter,List.mem_singleton,decide_eq_true_iff,decide_eq_true_iff]
 constructor
 · rintro ((⟨h1,h2⟩ | h) | ⟨h1,h2⟩)
   · exact .inl ⟨h1,h2.ne⟩
   · exact .inr h
   · exact .inl ⟨h1,fun e=>h2.ne e.symm⟩
 · rintro (⟨h1,h2⟩ | h)
   · rcases zgH g.n f.n with h3 | h3 | h3
     · exact .inl (.inl ⟨h1,h3⟩)
     · exact absurd h3 h2
     · exact .inr ⟨h1,h3⟩
   · exact .inl (.inr h)
theorem Up.withF {l:List Fl} (h:Up l) (f:Fl):Up (withF l f):=by
 unfold Up Dp.withF;rw [List.pairwise_append,List.pairwise_append];refine ⟨⟨h.filter _,by simp,?_⟩,h.filter _,?_⟩
 · intro a ha b hb
   rw [List.mem_singleton] at hb
   rw [hb];exact of_decide_eq_true (List.mem_filter.1 ha).2
 · intro a ha b hb
   have h2:Lt f.n b.n:=of_decide_eq_true (List.mem_filter.1 hb).2
   rcases List.mem_append.1 ha with h1 | h1
   · exact Lt.trans (of_decide_eq_true (List.mem_filter.1 h1).2) h2
   · rw [List.mem_singleton] at h1
     rw [h1];exact h2
theorem zaJ {l:List Fl} {n:ByteArray} {g:Fl}:g∈without l n↔g∈l/\g.n≠n:=by unfold without;simp
theorem Up.without {l:List Fl} (h:Up l) (n:ByteArray):Up (without l n):=h.filter _
theorem get_mem {l:List Fl} {n:ByteArray} {f:Fl} (h:get l n=some f):f∈l/\f.n=n:=by
 unfold get at h;have h2:=List.find?_some h;exact ⟨List.mem_of_find?_eq_some h,by simpa using h2⟩
theorem get_none {l:List Fl} {n:ByteArray}:get l n=none↔ ∀f∈l,f.n≠n:=by
 unfold get
 simp
theorem Up.one {l:List Fl} (h:Up l) {f g:Fl} (hf:f∈l) (hg:g∈l) (he:f.n=g.n):f=g:=by
 induction l with
 | nil=>cases hf
 | cons a l ih=>
  have hp:=List.pairwise_cons.1 h
  rcases List.mem_cons.1 hf with e1 | hf2
  · rcases List.mem_cons.1 hg with e2 | hg2
    · rw [e1,e2]
    · exact absurd (e1▸he) (hp.1 g hg2).ne
  · rcases List.mem_cons.1 hg with e2 | hg2
    · exact absurd (e2▸he.symm) (hp.1 f hf2).ne
    · exact ih hp.2 hf2 hg2
theorem zdv {l:List Fl} (h:Up l) {f:Fl} (hf:f∈l):get l f.n=some f:=by
 rcases hg:get l f.n with _ | g
 · exact absurd rfl (get_none.1 hg f hf)
 · obtain ⟨h1,h2⟩:=get_mem hg
   rw [h.one h1 hf h2]
theorem zaQ (D:Dk) (l:List Fl) (own:Int):(change D l own=(D,10)/\D.x=true)\/(change D l own=(D,own)/\own≠0/\D.x=false)\/(change D l own=({D with x:=true},10)/\own=0/\D.x=false/\D.a=true/\D.l=0)\/
 (change D l own=({D with f:=l,l:=D.l-1},0)/\own=0/\D.x=false/\D.a=true/\D.l≠0)\/(change D l own=({D with f:=l},0)/\own=0/\D.x=false/\D.a=false):=by
 unfold change
 by_cases h1:D.x=true
 · exact .inl ⟨by rw [if_pos h1],h1⟩
 · have h1':D.x=false:=by simpa using h1
   rw [if_neg h1]
   by_cases h2:own≠0
   · exact .inr (.inl ⟨by rw [if_pos h2],h2,h1'⟩)
   · have h2':own=0:=by simpa using h2
     rw [if_neg h2]
     by_cases h3:D.a=true
     · by_cases h4:D.l=0
       · exact .inr (.inr (.inl ⟨by rw [if_pos ⟨h3,h4⟩],h2',h1',h3,h4⟩))
       · exact .inr (.inr (.inr (.inl ⟨by rw [if_neg (fun h=>h4 h.2),if_pos h3],h2',h1',h3,h4⟩)))
     · exact .inr (.inr (.inr (.inr ⟨by rw [if_neg (fun h=>h3 h.1),if_neg h3],h2',h1',by simpa using h3⟩)))
theorem Right.change {D:Dk} (h:Right D) {l:List Fl} {own:Int} (hl:own=0->(∀f∈l,FOk f)/\Up l):Right (change D l own).1:=by
 rcases zaQ D l own with ⟨e,_⟩ | ⟨e,_⟩ | ⟨e,_⟩ | ⟨e,h0,_,_,h1⟩ | ⟨e,h0,_⟩
 all_goals rw [e]
 · exact h
 · exact h
 · exact h
 · exact ⟨(hl h0).1,(hl h0).2,h.2.2.1,by have:=h.2.2.2;show 0<=D.l-1;omega⟩
 · exact ⟨(hl h0).1,(hl h0).2,h.2.2.1,h.2.2.2⟩
theorem zdX {D:Dk} (h:Right D) {f:Fl} (hf:FOk f):(∀g∈withF D.f f,FOk g)/\Up (withF D.f f):=by
 refine ⟨fun g hg=>?_,h.2.1.withF f⟩
 rcases zbH.1 hg with h1 | rfl
 · exact h.1 g h1.1
 · exact hf
theorem zla {f:Fl} (h:FOk f) (k:Int):FOk (left f k):=⟨h.1,by unfold left;exact Int.natCast_nonneg _,Int.le_refl _⟩
theorem zcV:∀(l:List Fl) (k:List Int),(zaA l k).map (·.n)=l.map (·.n)
 | [],_=>rfl
 | f::l,[]=>by rw [zaA,List.map_cons,List.map_cons,zcV l []];rfl
 | f::l,k::r=>by rw [zaA,List.map_cons,List.map_cons,zcV l r];rfl
theorem zeE:∀(l:List Fl) (k:List Int),(∀f∈l,FOk f)->∀f∈zaA l k,FOk f
 | [],_,_,f,hf=>by cases hf
 | g::l,[],h,f,hf=>by
  rcases List.mem_cons.1 hf with rfl | hf
  · exact zla (h g (by simp)) 0
  · exact zeE l [] (fun q hq=>h q (by simp [hq])) f hf
 | g::l,k::r,h,f,hf=>by
  rcases List.mem_cons.1 hf with rfl | hf
  · exact zla (h g (by simp)) k
  · exact zeE l r (fun q hq=>h q (by simp [hq])) f hf
theorem zfl {l:List Fl}:Up l↔(l.map (·.n)).Pairwise Lt:=by unfold Up;rw [List.pairwise_map]
theorem Right.crash {D:Dk} (h:Right D) (k:List Int):Right (crash D k):=
 ⟨zeE D.f k h.1,zfl.2 (by show ((zaA D.f k).map _).Pairwise _;rw [zcV];exact zfl.1 h.2.1),h.2.2.1,Int.le_refl _⟩
theorem Right.act {D:Dk} (h:Right D) (a:Act):Right (act D a).1:=by
 unfold Dp.act;have none:∀e:Int,e≠0->Right (Dp.change D [] e).1:=fun e he=>h.change fun h0=>absurd h0 he
 split
 · unfold create
   split
   · exact none 1 (by decide)
   · rename_i hn
     split
     · exact none 8 (by decide)
     · exact h.change fun _=>zdX h ⟨by simpa using hn,Int.le_refl _,Int.natCast_nonneg _⟩
 split
 · unfold append
   split
   · exact none 7 (by decide)
   · rename_i f hf
     have hf':=h.1 f (get_mem hf).1
     split
     · exact none 9 (by decide)
     · exact h.change fun _=>zdX h ⟨hf'.1,hf'.2.1,by have h3:=hf'.2.2;show f.s<=((f.d++a.t).size:Int);rw [ByteArray.size_append];omega⟩
 split
 · unfold sync
   split
   · exact none 7 (by decide)
   · rename_i f hf
     have hf':=h.1 f (get_mem hf).1
     exact h.change fun _=>zdX h ⟨hf'.1,Int.natCast_nonneg _,Int.le_refl _⟩
 split
 · unfold cut
   split
   · exact none 7 (by decide)
   · rename_i f hf
     have hf':=h.1 f (get_mem hf).1
     split
     · exact none 6 (by decide)
     · refine h.change fun _=>zdX h ⟨hf'.1,by have:=hf'.2.1;show 0<=min f.s a.i;omega,?_⟩
       show min f.s a.i<=((f.d.extract 0 a.i.toNat).size:Int)
       rw [ByteArray.size_extract];omega
 split
 · unfold rename
   split
   · exact none 7 (by decide)
   · rename_i f hf
     have hf':=h.1 f (get_mem hf).1
     split
     · exact none 1 (by decide)
     · rename_i hn
       refine h.change fun _=>⟨fun g hg=>?_,(h.2.1.without a.n).withF _⟩
       rcases zbH.1 hg with h1 | rfl
       · exact h.1 g (zaJ.1 h1.1).1
       · exact ⟨by simpa using hn,hf'.2.1,hf'.2.2⟩
 split
 · unfold delete
   split
   · exact none 7 (by decide)
   · exact h.change fun _=>⟨fun g hg=>h.1 g (zaJ.1 hg).1,h.2.1.without a.n⟩
 split
 · exact ⟨h.1,h.2.1,h.2.2.1,by show 0<=max a.i 0;omega⟩
 split
 · exact ⟨h.1,h.2.1,by show 0<=max a.i 0;omega,h.2.2.2⟩
 · exact h.crash a.e
end Dp
section
namespace Np
def dig:Nat->Nat->List UInt8
 | 0,_=>[]
 | k+1,n=>dig k (n/10)++[UInt8.ofNat (48+n%10)]
theorem dig_len:∀(k n:Nat),(dig k n).length=k
 | 0,_=>rfl
 | k+1,n=>by simp [dig,dig_len k (n/10)]
theorem zlx (j:Nat):∀(k n:Nat),dig (j+k) n=dig j (n/10^k)++dig k n
 | 0,n=>by simp [dig]
 | k+1,n=>by
  rw [show j+(k+1)=(j+k)+1 from rfl,dig,zlx j k (n/10),dig,Nat.div_div_eq_div_mul,Nat.pow_succ,Nat.mul_comm 10 (10^k)]
  simp
theorem dig_cons (k n:Nat):dig (k+1) n=UInt8.ofNat (48+n/10^k%10)::dig k n:=by
 rw [show k+1=1+k from by omega,zlx 1 k n]
 simp [dig]
def nameL (c:UInt8) (n:Int):List UInt8:=if 0<=n/\n<=1099511627776 then c::dig 13 n.toNat else []
def zlg (c:UInt8):Bool:=decide (48<=c.toNat)&&decide (c.toNat<=57)
theorem zlf (c:UInt8):zlg c=true↔48<=c.toNat/\c.toNat<=57:=by unfold zlg;simp
def val (l:List UInt8):Nat:=l.foldl (fun a c=>a*10+(c.toNat-48)) 0
theorem val_snoc (l:List UInt8) (c:UInt8):val (l++[c])=val l*10+(c.toNat-48):=by simp [val]
theorem digit (n:Nat):(UInt8.ofNat (48+n%10)).toNat=48+n%10:=by
 rw [UInt8.toNat_ofNat'];omega
theorem zj4:∀(k n:Nat),val (dig k n)=n%10^k
 | 0,n=>by simp [dig,val,Nat.mod_one]
 | k+1,n=>by
  rw [dig,val_snoc,zj4 k,digit,Nat.pow_succ,Nat.mul_comm (10^k) 10,Nat.mod_mul];omega
theorem zlw:∀(k n:Nat),(dig k n).all zlg=true
 | 0,_=>rfl
 | k+1,n=>by
  rw [dig,List.all_append,zlw k];simp only [List.all_cons,List.all_nil,Bool.and_true,Bool.true_and];rw [zlf,digit];omega
def offB (l:List UInt8):Bool:=l.all zlg&&decide (val l<=1099511627776)
theorem offB_iff (l:List UInt8):offB l=true↔l.all zlg=true/\val l<=1099511627776:=by unfold offB;simp
def kind (s:List UInt8):UInt8×Nat:=
 if s=[109]\/s=[110] then (s.headD 0,0)
 else if s.length=14/\(s.headD 0=115\/s.headD 0=116)/\offB s.tail=true then (s.headD 0,val s.tail)
 else (0,0)
theorem zgM {c:UInt8} (hc:c=115\/c=116) {n:Nat} (h:n<=1099511627776):kind (nameL c (n:Int))=(c,n):=by
 have e:nameL c (n:Int)=c::dig 13 n:=by unfold nameL;rw [if_pos ⟨by omega,by omega⟩];simp
 have v:val (dig 13 n)=n:=by rw [zj4];exact Nat.mod_eq_of_lt (by omega)
 rw [e];unfold kind;have l:=dig_len 13 n;rw [if_neg,if_pos]
 · simp [v]
 · refine ⟨by simp [l],by simpa using hc,?_⟩
   rw [List.tail_cons,offB_iff]
   exact ⟨zlw _ _,by omega⟩
 · rintro (h | h)<;> · have:=congrArg List.length h;simp [l] at this
theorem name_inj {c:UInt8} (hc:c=115\/c=116) {a b:Nat} (ha:a<=1099511627776) (hb:b<=1099511627776) (h:nameL c (a:Int)=nameL c (b:Int)):a=b:=by
 have:=(zgM hc ha).symm.trans ((congrArg kind h).trans (zgM hc hb));exact congrArg Prod.snd this
theorem name_len (c:UInt8) {a:Nat} (ha:a<=1099511627776):(nameL c (a:Int)).length=14:=by
 unfold nameL;rw [if_pos ⟨by omega,by omega⟩,List.length_cons,dig_len]
theorem name_short (c:UInt8) (a:Int):(nameL c a).length<=14:=by
 unfold nameL;split<;>simp [dig_len]
end Np
end
namespace Vp
def putF:Nat->Nat->List UInt8
 | 0,_=>[]
 | k+1,n=>if n<128 then [UInt8.ofNat n] else UInt8.ofNat (128+n%128)::putF k (n/128)
def put (n:Nat):List UInt8:=putF 9 n
def takeF:Nat->List UInt8->Option (Nat×Nat)
 | 0,_=>none
 | _+1,[]=>none
 | k+1,b::r=>
  if b.toNat<128 then some (b.toNat,1)
  else match takeF k r with
   | none=>none
   | some (m,j)=>if m=0 then none else some (b.toNat%128+128*m,j+1)
def take (l:List UInt8):Option (Nat×Nat):=takeF 9 l
def loopF:Nat->Nat->Nat->Nat->List UInt8->Option (Nat×Nat)
 | 0,_,_,_,_=>none
 | _+1,_,_,_,[]=>none
 | k+1,n,u,i,b::r=>
  if b.toNat<128 then (if b.toNat=0/\0<i then none else some (n+b.toNat*u,i+1))
  else loopF k (n+b.toNat%128*u) (u*128) (i+1) r
theorem zka:∀(k:Nat) (l:List UInt8) (m j:Nat),takeF k l=some (m,j)->0<j/\j<=k/\j<=l.length/\m<128^j:=by
 intro k
 induction k with
 | zero=>intro l m j h;simp [takeF] at h
 | succ k ih=>
  intro l m j h
  cases l with
  | nil=>simp [takeF] at h
  | cons b r=>
   unfold takeF at h
   by_cases hb:b.toNat<128
   · rw [if_pos hb] at h
     injection h with h
     injection h with h1 h2
     subst h1;subst h2;exact ⟨by omega,by omega,by simp,by simpa using hb⟩
   · rw [if_neg hb] at h
     cases hr:takeF k r with
     | none=>rw [hr] at h;cases h
     | some p=>
      obtain ⟨m',j'⟩:=p;rw [hr] at h
      simp only at h
      by_cases hm:m'=0
      · rw [if_pos hm] at h;cases h
      · rw [if_neg hm] at h
        injection h with h
        injection h with h1 h2
        obtain ⟨a1,a2,a3,a4⟩:=ih r m' j' hr;subst h1;subst h2;refine ⟨by omega,by omega,by simp;omega,?_⟩;rw [Nat.pow_succ];omega
theorem zjD:∀(k n u i:Nat) (l:List UInt8),loopF k n u i l=
 match takeF k l with
 | none=>none
 | some (m,j)=>if m=0/\0<i then none else some (n+m*u,i+j):=by
 intro k
 induction k with
 | zero=>intro n u i l;rfl
 | succ k ih=>
  intro n u i l
  cases l with
  | nil=>rfl
  | cons b r=>
   unfold loopF takeF
   by_cases hb:b.toNat<128
   · rw [if_pos hb,if_pos hb]
   · rw [if_neg hb,if_neg hb,ih]
     cases hr:takeF k r with
     | none=>rfl
     | some p=>
      obtain ⟨m,j⟩:=p
      simp only
      by_cases hm:m=0
      · rw [if_pos ⟨hm,by omega⟩,if_pos hm]
      · rw [if_neg (by omega),if_neg hm]
        simp only
        rw [if_neg (by omega)]
        congr 1
        refine Prod.ext ?_ ?_
        · simp only
          rw [Nat.add_mul,Nat.mul_comm 128 m,Nat.mul_assoc m 128 u,Nat.mul_comm 128 u];omega
        · simp only;omega
theorem loop_take (l:List UInt8):loopF 9 0 1 0 l=take l:=by
 rw [zjD];unfold take
 cases takeF 9 l with
 | none=>rfl
 | some p=>obtain ⟨m,j⟩:=p;simp
theorem ofNat_toNat_lt (n:Nat) (h:n<256):(UInt8.ofNat n).toNat=n:=by
 rw [UInt8.toNat_ofNat'];exact Nat.mod_eq_of_lt h
theorem putF_len:∀(k n:Nat),(putF k n).length<=k:=by
 intro k
 induction k with
 | zero=>intro n;simp [putF]
 | succ k ih=>
  intro n;unfold putF
  split
  · simp
  · have:=ih (n/128);simp;omega
theorem put_len_le (n:Nat):(put n).length<=9:=putF_len 9 n
theorem zgy (k n:Nat):0<(putF (k+1) n).length:=by
 unfold putF;split<;>simp
theorem put_len_pos (n:Nat):0<(put n).length:=zgy 8 n
theorem zj9:∀(k n:Nat) (r:List UInt8),n<128^(k+1)->takeF (k+1) (putF (k+1) n++r)=some (n,(putF (k+1) n).length):=by
 intro k
 induction k with
 | zero=>
  intro n r h
  have hn:n<128:=by simpa using h
  simp [takeF,putF,hn]
  omega
 | succ k ih=>
  intro n r h;rw [putF]
  by_cases hn:n<128
  · rw [if_pos hn]
    simp only [List.cons_append,List.nil_append,takeF]
    rw [ofNat_toNat_lt n (by omega),if_pos hn]
    rfl
  · rw [if_neg hn]
    rw [List.cons_append,takeF]
    rw [ofNat_toNat_lt _ (by omega),if_neg (by omega),ih (n/128) r (by rw [Nat.pow_succ] at h;omega)]
    simp only
    rw [if_neg (by omega)]
    congr 1
    refine Prod.ext ?_ ?_
    · simp only;omega
    · simp
theorem take_put (n:Nat) (r:List UInt8) (h:n<9223372036854775808):take (put n++r)=some (n,(put n).length):=
 zj9 8 n r h
theorem zkG:∀(k:Nat) (l:List UInt8) (n j:Nat),takeF k l=some (n,j)->putF k n=l.take j:=by
 intro k
 induction k with
 | zero=>intro l n j h;simp [takeF] at h
 | succ k ih=>
  intro l n j h
  cases l with
  | nil=>simp [takeF] at h
  | cons b r=>
   unfold takeF at h
   by_cases hb:b.toNat<128
   · rw [if_pos hb] at h
     injection h with h
     injection h with h1 h2
     subst h1;subst h2;rw [putF,if_pos hb,List.take_succ_cons,List.take_zero,UInt8.ofNat_toNat]
   · rw [if_neg hb] at h
     cases hr:takeF k r with
     | none=>rw [hr] at h;cases h
     | some p=>
      obtain ⟨m',j'⟩:=p;rw [hr] at h
      simp only at h
      by_cases hm:m'=0
      · rw [if_pos hm] at h;cases h
      · rw [if_neg hm] at h
        injection h with h
        injection h with h1 h2
        subst h1;subst h2;have hb2:b.toNat<256:=b.toNat_lt;rw [putF,if_neg (by omega),List.take_succ_cons];rw [show (b.toNat%128+128*m')/128=m' from by omega,ih r m' j' hr]
        congr 1
        rw [show 128+(b.toNat%128+128*m')%128=b.toNat from by omega,UInt8.ofNat_toNat]
theorem put_take {l:List UInt8} {n j:Nat} (h:take l=some (n,j)):put n=l.take j:=zkG 9 l n j h
theorem take_some {l:List UInt8} {m j:Nat} (h:take l=some (m,j)):0<j/\j<=9/\j<=l.length/\m<9223372036854775808:=by
 obtain ⟨a,b,c,d⟩:=zka 9 l m j h;refine ⟨a,b,c,Nat.lt_of_lt_of_le d ?_⟩;exact (Nat.pow_le_pow_right (by omega) b)
theorem zkH:∀(k a b:Nat),a<=b->(putF k a).length<=(putF k b).length:=by
 intro k
 induction k with
 | zero=>intro a b h;simp [putF]
 | succ k ih=>
  intro a b h;rw [putF,putF]
  by_cases ha:a<128
  · rw [if_pos ha]
    split<;>simp
  · rw [if_neg ha,if_neg (by omega)]
    have:=ih (a/128) (b/128) (Nat.div_le_div_right h)
    simpa using this
theorem put_mono {a b:Nat} (h:a<=b):(put a).length<=(put b).length:=zkH 9 a b h
theorem putF_len_iff:∀(k n j:Nat),2^(7*j)<=n->n<2^(7*(j+1))->j<k->(putF k n).length=j+1:=by
 intro k
 induction k with
 | zero=>intro n j _ _ h;omega
 | succ k ih=>
  intro n j h1 h2 h3;rw [putF]
  cases j with
  | zero=>rw [if_pos (by simpa using h2)];rfl
  | succ j=>
   have e1:2^(7*(j+1))=128*2^(7*j):=by rw [show 7*(j+1)=7+7*j from by omega,Nat.pow_add]
   have e2:2^(7*(j+1+1))=128*2^(7*(j+1)):=by rw [show 7*(j+1+1)=7+7*(j+1) from by omega,Nat.pow_add]
   have hp:0<2^(7*j):=Nat.pow_pos (by omega);rw [if_neg (by omega)];have:=ih (n/128) j (by omega) (by omega) (by omega)
   simp [this]
theorem putF_cons {k n:Nat} (h:¬n<128):putF (k+1) n=UInt8.ofNat (128+n%128)::putF k (n/128):=by rw [putF,if_neg h]
theorem putF_one {k n:Nat} (h:n<128):putF (k+1) n=[UInt8.ofNat n]:=by rw [putF,if_pos h]
end Vp
namespace Cp
def poly:Nat:=2197175160
def bit (x:Nat):Nat:=(x/2)^^^(x%2*poly)
def bitN:Nat->Nat->Nat
 | 0,x=>x
 | n+1,x=>bitN n (bit x)
theorem ziS (a b x:Nat):bitN (a+b) x=bitN b (bitN a x):=by
 induction a generalizing x with
 | zero=>simp [bitN]
 | succ a ih=>rw [show a+1+b=(a+b)+1 from by omega];exact ih (bit x)
theorem bitN_succ' (n x:Nat):bitN (n+1) x=bit (bitN n x):=by rw [ziS n 1];rfl
theorem xor_half (x y:Nat):(x^^^y)/2=(x/2)^^^(y/2):=by
 have:= @Nat.shiftRight_xor_distrib 1 x y
 simpa [Nat.shiftRight_eq_div_pow] using this
theorem xor_odd (x y:Nat):(x^^^y)%2=(x%2+y%2)%2:=by
 have h:= @Nat.xor_mod_two_pow x y 1;simp at h;rw [h]
 rcases Nat.mod_two_eq_zero_or_one x with a | a<;>rcases Nat.mod_two_eq_zero_or_one y with b | b<;>simp [a,b]
theorem bit_xor (x y:Nat):bit (x^^^y)=bit x^^^bit y:=by
 unfold bit;rw [xor_half,xor_odd]
 rcases Nat.mod_two_eq_zero_or_one x with a | a<;>rcases Nat.mod_two_eq_zero_or_one y with b | b<;>simp only [a,b,Nat.zero_mul,Nat.one_mul,Nat.xor_zero,Nat.zero_add,Nat.add_zero,Nat.mod_self,Nat.zero_mod,Nat.one_mod,Nat.reduceAdd]
 · rw [Nat.xor_assoc]
 · rw [Nat.xor_assoc,Nat.xor_assoc,Nat.xor_comm (y/2) poly]
 · have e:(x/2^^^poly)^^^(y/2^^^poly)=(x/2^^^y/2)^^^(poly^^^poly):=by ac_rfl
   rw [e,Nat.xor_self,Nat.xor_zero]
theorem bitN_xor (n x y:Nat):bitN n (x^^^y)=bitN n x^^^bitN n y:=by
 induction n generalizing x y with
 | zero=>rfl
 | succ n ih=>show bitN n (bit (x^^^y))=bitN n (bit x)^^^bitN n (bit y);rw [bit_xor,ih]
theorem zjS (x:Nat):bit (2*x)=x:=by
 unfold bit
 have h1:2*x/2=x:=by omega
 have h2:2*x%2=0:=by omega
 rw [h1,h2,Nat.zero_mul,Nat.xor_zero]
theorem zjT (n x:Nat):bitN n (2^n*x)=x:=by
 induction n generalizing x with
 | zero=>simp [bitN]
 | succ n ih=>
  show bitN n (bit (2^(n+1)*x))=x;rw [show 2^(n+1)*x=2*(2^n*x) from by rw [Nat.pow_succ];ac_rfl,zjS,ih]
theorem bit_lt {x:Nat} (h:x<4294967296):bit x<4294967296:=by
 unfold bit
 have h1:x/2<2^32:=by omega
 have h2:x%2*poly<2^32:=by rcases Nat.mod_two_eq_zero_or_one x with a | a<;>rw [a]<;>decide
 exact Nat.xor_lt_two_pow h1 h2
theorem bitN_lt (n:Nat) {x:Nat} (h:x<4294967296):bitN n x<4294967296:=by
 induction n generalizing x with
 | zero=>exact h
 | succ n ih=>exact ih (bit_lt h)
def byte (x:Nat) (b:UInt8):Nat:=bitN 8 (x^^^b.toNat)
def on (x:Nat) (l:List UInt8):Nat:=l.foldl byte x
theorem on_nil (x:Nat):on x []=x:=rfl
theorem on_append (x:Nat) (a b:List UInt8):on x (a++b)=on (on x a) b:=by unfold on;rw [List.foldl_append]
theorem byte_lt {x:Nat} (b:UInt8) (h:x<4294967296):byte x b<4294967296:=by
 unfold byte;refine bitN_lt 8 ?_
 have:b.toNat<2^32:=by have:=b.toNat_lt;omega
 exact Nat.xor_lt_two_pow (show x<2^32 from h) this
theorem on_lt {x:Nat} (l:List UInt8) (h:x<4294967296):on x l<4294967296:=by
 induction l generalizing x with
 | nil=>exact h
 | cons b l ih=>exact ih (byte_lt b h)
def turn (x:Nat):Nat:=4294967295-x
theorem turn_lt (x:Nat):turn x<4294967296:=by unfold turn;omega
theorem turn_turn {x:Nat} (h:x<4294967296):turn (turn x)=x:=by unfold turn;omega
def sum (s:Nat) (l:List UInt8):Nat:=turn (on (turn s) l)
theorem sum_lt (s:Nat) (l:List UInt8):sum s l<4294967296:=turn_lt _
theorem sum_nil {s:Nat} (h:s<4294967296):sum s []=s:=by
 unfold sum;rw [on_nil,turn_turn h]
theorem four (x:Nat):bitN 4 x=(x/16)^^^bitN 4 (x%16):=by
 have e:x=(2^4*(x/16))^^^(x%16):=by
  have h:=Nat.two_pow_add_eq_or_of_lt (i:=4) (b:=x%16) (by omega) (x/16)
  have hx:2^4*(x/16)+x%16=x:=by omega
  rw [hx] at h;refine h.trans ?_
  apply Nat.eq_of_testBit_eq
  intro i;rw [Nat.testBit_or,Nat.testBit_xor]
  rcases Nat.lt_or_ge i 4 with hi | hi
  · have:(2^4*(x/16)).testBit i=false:=by rw [Nat.testBit_two_pow_mul];simp;omega
    rw [this];simp
  · have:(x%16).testBit i=false:=by
     apply Nat.testBit_lt_two_pow
     exact Nat.lt_of_lt_of_le (show x%16<2^4 from by omega) (Nat.pow_le_pow_right (by omega) hi)
    rw [this];simp
 conv=>lhs;rw [e]
 rw [bitN_xor,zjT]
theorem byte_fours (x:Nat) (b:UInt8):byte x b=bitN 4 (bitN 4 (x^^^b.toNat)):=ziS 4 4 _
end Cp
end Go.Proofs.YtgmppfpllogdcaaGreat

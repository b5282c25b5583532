/-
  Parts of what the laws of this seat stand on:Builder,WirNum,BuildKept,WirTad.
-/
import Derived.Test.YtmkdcpjlhphhiaaBj1
import Derived.Deep.RegionHeld3
import Derived.Lib.Hide
import Derived.Lib.OthersKept
import Derived.Shelf.Strings.Builder1
import Derived.Test.YtmkdcpjlhphhiaaBj3
import Derived.Test.YtmkdcpjlhphhiaaBj4
import Derived.Test.YtmkdcpjlhphhiaaBj8
set_option maxRecDepth 100000
set_option maxHeartbeats 6400000
namespace Go.Proofs.Ytmkdcpjlhphhiaa
end Go.Proofs.Ytmkdcpjlhphhiaa
namespace Go.Proofs
open Go.Shelf
def Try.lays169_ren:Go.Shelf.Ren:=⟨fun | 169=>41 | n=>n,fun | 70=>62 | 9=>9 | 0=>0 | 72=>64 | 37=>38 | 127=>89 | 3=>3 | 5=>5 | n=>n,fun | n=>n⟩
theorem Try.lays169:Go.Proofs.Lays.n169 Try.prog Try.lays169_ren:={
 mixed:=by kernel_rfl
 f169:=Try.func41.trans (congrArg some (by kernel_rfl))
 t0:=Try.underlying0
 a0:=Try.isAgg0
 z0:=Try.sizeOf0
 v0:=Try.zeroValue0
 t3:=Try.underlying3
 a3:=Try.isAgg3
 z3:=Try.sizeOf3
 v3:=Try.zeroValue3
 t9:=Try.underlying9
 a9:=Try.isAgg9
 z9:=Try.sizeOf9
 v9:=Try.zeroValue9
 t37:=Try.underlying38
 a37:=Try.isAgg38
 z37:=Try.sizeOf38
 v37:=Try.zeroValue38
 t70:=Try.underlying62
 a70:=Try.isAgg62
 z70:=Try.sizeOf62
 v70:=Try.zeroValue62
 t72:=Try.underlying64
 a72:=Try.isAgg64
 z72:=Try.sizeOf64
 v72:=Try.zeroValue64
 t127:=Try.underlying89
 a127:=Try.isAgg89
 z127:=Try.sizeOf89
 v127:=Try.zeroValue89}
theorem Try.Builder_Extra_169:Builder.Extra Try.prog Try.lays169_ren:={
 sizeBuilder:=by kernel_rfl
 liesBuilder:=by kernel_rfl
 t5:=Try.underlying5
 a5:=Try.isAgg5
 z5:=Try.sizeOf5
 v5:=Try.zeroValue5
 infoByte:=by kernel_rfl
 cellsByte:=by kernel_rfl
 sizeByte:=by kernel_rfl
 neB5:=by decide}
open Go.RowKit in
theorem Try.Builder_String_any (B b:Nat) (l:List UInt8) (w:World) (h:Lib.IsBuilder 64 5 B b (Lib.byteCells l) w) (hBw:B<=w.heap.size):
 Calls Try.prog 41 #[.pointer (some ⟨b,0,none⟩)] w fun e w'=>e= .returned (.string ⟨l.toArray⟩)/\Below B w w':=Any.Builder_String_any Try.lays169 Try.Builder_Extra_169 B b l w h hBw
end Go.Proofs
namespace Go.Proofs.Ytmkdcpjlhphhiaa
section
open Go.RowKit
abbrev zdb (B b:Nat) (p:Value) (l:List UInt8) (w:World):Prop:=Lib.BuilderAt 64 5 B b p (Lib.byteCells l) w
abbrev Built (B b:Nat) (l:List UInt8) (w:World):Prop:=Lib.IsBuilder 64 5 B b (Lib.byteCells l) w
theorem zbX:(Try.prog.info? 64).map (·.size)=some 2:=by kernel_rfl
theorem zdz:liesAt Try.prog Try.prog.depth 64 (2/Try.prog.cellsOf 64) 0 64 1=true:=by kernel_rfl
theorem zcG (b:Nat) (w:World) (h0:w.cell? ⟨b,0,none⟩=some (.pointer (some ⟨b,0,none⟩))):
 Calls Try.prog 59 #[.pointer (some ⟨b,0,none⟩)] w fun e w'=>e= .returned (.tuple #[])/\w=w':=by
 obtain ⟨j,hj,_⟩:=Option.map_eq_some_iff.1 zbX;have hn:=fun W:World=>Lib.run_neq_ptr_same (P:=Try.prog) W (tp:=62) ⟨b,0,none⟩ Try.underlying62 hj
 go_enter Try.func59,Try.ntmps59
 go_wp2_with fail
 go_end0
 exact ⟨rfl,rfl⟩
theorem zcw (b:Nat) (w:World) (h0:w.cell? ⟨b,0,none⟩=some (.pointer none)) (hsh:w.shape? b=some (64,2)) (hfz:w.frozen? ⟨b,0,none⟩=false):
 Calls Try.prog 59 #[.pointer (some ⟨b,0,none⟩)] w fun e w'=>e= .returned (.tuple #[])/\w'=w.setCell ⟨b,0,none⟩ (.pointer (some ⟨b,0,none⟩)):=by
 obtain ⟨j,hj,hjs⟩:=Option.map_eq_some_iff.1 zbX;have h1:=Lib.run_to_unsafe (P:=Try.prog) (w:=w) (src:=62) (dst:=92) ⟨b,0,none⟩ Try.underlying62 Try.underlying92 hj (by rw [hjs];decide) hsh (Nat.zero_lt_succ 1);have h2:=Lib.run_from_unsafe (P:=Try.prog) (w:=w) (src:=92) (dst:=62) ⟨b,0,none⟩ Try.underlying92 Try.underlying62 hj hsh zdz
 have h3:(callFunc 62 #[.pointer (some ⟨b,0,none⟩)]).run Try.prog w= .ok (.value (.pointer (some ⟨b,0,none⟩))) w:=by
  rw [run_callFunc_extern Try.func62 (by kernel_rfl) (by kernel_rfl) (by kernel_rfl) (e:=Extern.AbiNoEscape.same) (by kernel_rfl),Lib.run_noEscape]
  rfl
 clear hj hjs hsh
 go_enter Try.func59,Try.ntmps59
 go_wp2_with fail
 go_end0
 exact ⟨rfl,rfl⟩
theorem zfP (B b:Nat) (l:List UInt8) (w:World) (h:Built B b l w):
 Calls Try.prog 59 #[.pointer (some ⟨b,0,none⟩)] w fun e w'=>e= .returned (.tuple #[])/\zdb B b (.pointer (some ⟨b,0,none⟩)) l w'/\Below B w w':=by
 rcases h with h | h
 · refine (zcw b w h.cell0 h.shape h.frozen0).mono ?_
   rintro e w' ⟨rfl,rfl⟩
   exact ⟨rfl,h.used _,(Below.refl B w).setCell (p:=⟨b,0,none⟩) h.1 _⟩
 · refine (zcG b w h.cell0).mono ?_
   rintro e w' ⟨rfl,rfl⟩
   exact ⟨rfl,h,Below.refl B w⟩
theorem zdA:(Try.prog.info? 5).map (fun i=>(i.zero,i.size,i.bytes))=some (some (.int .u8 0),1,1):=by kernel_rfl
theorem zbZ (l:List UInt8) (s:ByteArray):Lib.byteCells l++Lib.strCells s=Lib.byteCells (l++s.data.toList):=by
 simp [Lib.byteCells,Lib.strCells]
theorem zdc (B b:Nat) (l:List UInt8) (s:ByteArray) (w:World) (h:Built B b l w) (hlen:l.length+s.size<=140737488355328) (hBw:B<=w.heap.size):
 Calls Try.prog 40 #[.pointer (some ⟨b,0,none⟩),.string s] w fun e w'=>e= .returned (.tuple #[.int .i64 s.size,.nilIface])/\Built B b (l++s.data.toList) w'/\Below B w w':=by
 obtain ⟨i0,hi,hz0,hz1,hz2⟩:=info_parts zdA;have C:=zid (zfP B b l w h);have HC:=zid (zbZ l s);have hll:(Lib.byteCells l).length=l.length:=Lib.byteCells_length l;rw [<-hll] at hlen;clear hll
 go_enter Try.func40,Try.ntmps40
 go_wp2_with fail;refine C.out.mono ?_;rintro e w1 ⟨rfl,⟨hB,v,hbk,hown,hne⟩,b1⟩
 have c1:w1.cell? ⟨b,1,none⟩=some v:=by rw [Lib.cell_of_heap hbk];rfl
 have hsz:=b1.size
 go_wp2_with (at_builtin;refine Lib.wpList_append_own_string _ rfl _ _ 38 9 rfl B 5 i0 Try.underlying38 Try.underlying9 hi hz0 hz1 hz2 _ _ _ rfl hown s rfl (by unfold maxLen;omega) (by omega) (by omega) ?_)
 intro v' w2 hown' hgrow _
 have hlt:b<w1.heap.size:=by
  rcases Nat.lt_or_ge b w1.heap.size with h' | h'
  · exact h'
  · simp [Array.getElem?_eq_none h'] at hbk
 have hb2:w2.heap[b]?=some (.cells #[.pointer (some ⟨b,0,none⟩),v] 64 (0,0)):=by
  rw [hgrow.block b hlt (fun e=>hne e.symm)];exact hbk
 have d1:w2.cell? ⟨b,1,none⟩=some v:=by rw [Lib.cell_of_heap hb2];rfl
 have f1:w2.frozen? ⟨b,1,none⟩=false:=Lib.frozen_of_heap hb2 1;have HB:Hid _:=zid hb2;have b2:Below B w w2:=b1.grown hgrow (by omega) (fun k hk=>(hown.lt k hk).1)
 obtain ⟨ao,n',cap,rfl⟩:∃ao n' cap,v'= .slice ao n' cap:=by
  rcases hown'.2 with ⟨hv,_⟩ | ⟨g,cap,cur,hv,_⟩
  · exact ⟨_,_,_,hv⟩
  · exact ⟨_,_,_,hv⟩
 have HO:=zid hown';clear hbk hb2 c1 hown hown' hgrow;go_wp2_with fail;go_ret2;refine ⟨rfl,.inr ?_,b2.setCell (p:=⟨b,1,none⟩) hB _⟩;have hO:=HO.out;rw [HC.out] at hO
 exact Lib.BuilderAt.put (T:=64) (e:=5) hB HB.out (bs':=Lib.byteCells (l++s.data.toList)) (by
  rw [show (Lib.byteCells l).length+s.size=(Lib.byteCells (l++s.data.toList)).length by rw [Lib.byteCells_length,Lib.byteCells_length,List.length_append];rfl] at hO
  exact hO) (by decide)
theorem Built.below {B b:Nat} {l:List UInt8} {w w':World} (h:Built B b l w) (hb:Below w.heap.size w w'):Built B b l w':=by
 have key:∀p,zdb B b p l w->zdb B b p l w':=by
  intro p hp;have hlt:=hp.lt;obtain ⟨hB,v,hbk,hown,hne⟩:=hp;exact ⟨hB,v,by rw [hb.block b hlt];exact hbk,zft hown hb,hne⟩
 rcases h with h | h
 · exact .inl (key _ h)
 · exact .inr (key _ h)
theorem Built.new (w:World):Built w.heap.size w.heap.size [] (w.alloc (.cells #[.pointer none,.slice none 0 0] 64)):=Lib.fresh_isBuilder _ _ w
end
namespace Wr
open Go.RowKit Qm Wq Mfs
theorem zfq {n:Int} (h:0<=n):putI n=Vp.put n.toNat:=by unfold putI;rw [if_neg (by omega)]
theorem zds {l:List Int} {k:Nat} (hk:k<l.length):puts (l.take (k+1))=puts (l.take k)++Vp.put (l.getD k 0).toNat:=by
 rw [zeC (z:=0) hk,zaI,zcW]
theorem zdr (l:List Int) (k:Nat):(puts (l.take k)).length<=9*k:=by
 have:=zaC (l.take k);have h:(l.take k).length<=k:=List.length_take_le _ _;omega
def Nums (l:List Int):Prop:=∀i,i<l.length->0<=l.getD i 0/\l.getD i 0<=9223372036854775807
theorem zco (a:Option Addr) (n c:Nat) (l:List Int) (w:World) (h:IsL IL w (.slice a n c) l) (hn:n<1000) (hl:Nums l):
 Calls Try.prog 20 #[.slice a n c] w fun e w'=>e= .returned (.string ⟨(puts l).toArray⟩)/\Below w.heap.size w w':=by
 have HV:=zid h;have HL:=zid h.len.1;have HN:=zid hl;clear h hl;obtain ⟨RR,hRR⟩:∃RR,puts l=RR:=⟨_,rfl⟩;rw [hRR];have HRR:=zid hRR;clear hRR
 go_enter Try.func20,Try.ntmps20
 go_wp2_with fail;have hin:Built w.heap.size w.heap.size (puts (l.take 0)) (w.alloc (.cells #[.pointer none,.slice none 0 0] 64))/\Below w.heap.size w (w.alloc (.cells #[.pointer none,.slice none 0 0] 64)):=⟨Built.new w,(Below.refl _ _).alloc (Nat.le_refl _) _⟩;generalize World.alloc w _=w1 at hin ⊢
 go_loopw [8] (fun i wr=>∃k:Nat,k<=n/\i= .int .i64 k/\Hid (Built w.heap.size w.heap.size (puts (l.take k)) wr/\Below w.heap.size w wr)) (fun i _=>n-(intOf i).toNat)
 case atStart=>exact ⟨0,Nat.zero_le _,rfl,zid hin⟩
 case round=>
  obtain ⟨k,hk,rfl,HR⟩:=hrel
  by_cases hlt:k<n
  · obtain ⟨b,off,rfl,c0⟩:=il_at (HV.out.keep HR.out.2) hlt
    have hlt':k<l.length:=by rw [<-HL.out];exact hlt
    obtain ⟨n0,n1⟩:=HN.out k hlt';have HT:=zid (zds hlt');have hRl:=zdr l k;clear hlt';generalize l.getD k 0=x at*;have P:=fun W:World=>zfp x W (by omega) (by omega);rw [zfq n0] at P;replace P:=zid P;have hp9:=zcn x.toNat;generalize Vp.put x.toNat=f at*;have HFL:=zid (show (puts (l.take k)).length+(⟨f.toArray⟩:ByteArray).size<=140737488355328 by rw [zai];omega);have HB:=zid HR.out.1;have bel:=zid HR.out.2;clear hRl hp9;go_wp2_with fail;refine (P.out _).mono ?_;rintro e w2 ⟨rfl,b2⟩;have HB2:=zid (HB.out.below b2);have b02:=zid (bel.out.trans (b2.mono bel.out.size));clear b2;go_wp2_with fail;refine (zdc _ _ _ _ _ HB2.out HFL.out b02.out.size).mono ?_;rintro e w3 ⟨rfl,hb3,b3⟩;have HB3:=zid hb3;have b03:=zid (b02.out.trans b3);clear hb3 b3;go_wp2_with fail
    go_roundw
    case rel=>exact ⟨k+1,by omega,by go_num,zid ⟨by rw [HT.out];exact HB3.out,b03.out⟩⟩
    case measure=>simp [intOf];omega
  · obtain rfl:k=n:=by omega
    have HB:=zid (show Built w.heap.size w.heap.size RR wr from by have:=HR.out.1;rwa [List.take_of_length_le (by rw [HL.out];exact Nat.le_refl _),HRR.out] at this)
    have bel:=zid HR.out.2;clear HR;go_wp2_with fail;refine (Try.Builder_String_any _ _ _ _ HB.out bel.out.size).mono ?_;rintro e w3 ⟨rfl,b3⟩;have b03:=zid (bel.out.trans b3);clear b3;go_wp2_with fail;go_ret;exact ⟨rfl,b03.out⟩
theorem zbW (a:Option Addr) (n c:Nat) (l:List Int) (w:World) (h:IsL IL w (.slice a n c) l) (hn:n<1000) (hl:Nums l):
 Calls Try.prog 22 #[.slice a n c] w fun e w'=>e= .returned (.string ⟨(puts l).toArray⟩)/\Below w.heap.size w w':=by
 have HV:=zid h;have HL:=zid h.len.1;have HN:=zid hl;clear h hl
 go_enter Try.func22,Try.ntmps22
 go_wp2_with fail
 go_loopw [3,4] (fun s i wr=>∃(k:Nat) (R:List UInt8),k<=n/\i= .int .i64 k/\s= .string ⟨R.toArray⟩/\Hid (R=puts (l.take k))/\R.length<=9*k/\Hid (Below w.heap.size w wr)) (fun _ i _=>n-(intOf i).toNat)
 case atStart=>exact ⟨0,[],Nat.zero_le _,rfl,rfl,zid rfl,Nat.le_refl _,zid (Below.refl _ _)⟩
 case round=>
  obtain ⟨k,R,hk,rfl,rfl,HR,hRl,HB⟩:=hrel
  by_cases hlt:k<n
  · obtain ⟨b,off,rfl,c0⟩:=il_at (HV.out.keep HB.out) hlt
    have hlt':k<l.length:=by rw [<-HL.out];exact hlt
    obtain ⟨n0,n1⟩:=HN.out k hlt';have HT:=zid (zds hlt');clear hlt';generalize l.getD k 0=x at*;have P:=fun W:World=>zcR x W (by omega) (by omega);rw [zfq n0] at P;replace P:=zid P;have hp9:=zcn x.toNat;generalize Vp.put x.toNat=f at*
    have s2:¬9223372036854775807<R.length+f.length:=by omega
    go_wp2_with fail;refine (P.out _).mono ?_;rintro e w2 ⟨rfl,b2⟩;have HB2:=zid (HB.out.trans (b2.mono HB.out.size));clear b2;go_wp2_with fail
    go_roundw
    case rel=>exact ⟨k+1,R++f,by omega,by go_num,congrArg Value.string (ByteArray.mk_append_mk R f),zid (by rw [HT.out,HR.out]),by rw [List.length_append];omega,HB2⟩
    case measure=>simp [intOf];omega
  · obtain rfl:k=n:=by omega
    have HF:=zid (show R=puts l by rw [HR.out,List.take_of_length_le (by rw [HL.out];exact Nat.le_refl _)])
    go_wp2_with fail;go_ret;exact ⟨by rw [<-HF.out];rfl,HB.out⟩
end Wr
section
open Go.RowKit
theorem zeU (B b:Nat) (l:List UInt8) (w:World) (h:Built B b l w):
 Calls Try.prog 59 #[.pointer (some ⟨b,0,none⟩)] w fun e w'=>e= .returned (.tuple #[])/\zdb B b (.pointer (some ⟨b,0,none⟩)) l w'/\Below B w w'/\Lib.OthersKept 5 (some b) w w':=by
 rcases h with h | h
 · refine (zcw b w h.cell0 h.shape h.frozen0).mono ?_
   rintro e w' ⟨rfl,rfl⟩
   exact ⟨rfl,h.used _,(Below.refl B w).setCell (p:=⟨b,0,none⟩) h.1 _,(Lib.OthersKept.refl _ _ _).setCell ⟨b,0,none⟩ rfl _⟩
 · refine (zcG b w h.cell0).mono ?_
   rintro e w' ⟨rfl,rfl⟩
   exact ⟨rfl,h,Below.refl B w,Lib.OthersKept.refl _ _ _⟩
theorem zeu (B b:Nat) (l:List UInt8) (s:ByteArray) (w:World) (h:Built B b l w) (hlen:l.length+s.size<=140737488355328) (hBw:B<=w.heap.size):
 Calls Try.prog 40 #[.pointer (some ⟨b,0,none⟩),.string s] w fun e w'=>e= .returned (.tuple #[.int .i64 s.size,.nilIface])/\Built B b (l++s.data.toList) w'/\Below B w w'/\Lib.OthersKept 5 (some b) w w':=by
 obtain ⟨i0,hi,hz0,hz1,hz2⟩:=info_parts zdA;have C:=zid (zeU B b l w h);have HC:=zid (zbZ l s);have hll:(Lib.byteCells l).length=l.length:=Lib.byteCells_length l;rw [<-hll] at hlen;clear hll
 go_enter Try.func40,Try.ntmps40
 go_wp2_with fail;refine C.out.mono ?_;rintro e w1 ⟨rfl,⟨hB,v,hbk,hown,hne⟩,b1,k1⟩
 have c1:w1.cell? ⟨b,1,none⟩=some v:=by rw [Lib.cell_of_heap hbk];rfl
 have hsz:=b1.size
 go_wp2_with (at_builtin;refine Lib.wpList_append_own_string _ rfl _ _ 38 9 rfl B 5 i0 Try.underlying38 Try.underlying9 hi hz0 hz1 hz2 _ _ _ rfl hown s rfl (by unfold maxLen;omega) (by omega) (by omega) ?_)
 intro v' w2 hown' hgrow _
 have hlt:b<w1.heap.size:=by
  rcases Nat.lt_or_ge b w1.heap.size with h' | h'
  · exact h'
  · simp [Array.getElem?_eq_none h'] at hbk
 have hb2:w2.heap[b]?=some (.cells #[.pointer (some ⟨b,0,none⟩),v] 64 (0,0)):=by
  rw [hgrow.block b hlt (fun e=>hne e.symm)];exact hbk
 have d1:w2.cell? ⟨b,1,none⟩=some v:=by rw [Lib.cell_of_heap hb2];rfl
 have f1:w2.frozen? ⟨b,1,none⟩=false:=Lib.frozen_of_heap hb2 1;have HB:Hid _:=zid hb2
 have HK:=zid (k1.grown hgrow (fun g hg=>by
  rcases hown.2 with ⟨hv,_⟩ | ⟨g',cap,cur,hv,h1⟩
  · rw [hv] at hg;simp [Value.ownBlock] at hg
  · rw [hv] at hg
    have:g'=g:=by simpa [Value.ownBlock] using hg
    subst this
    exact ⟨_,_,h1.2.1⟩))
 clear k1;have b2:Below B w w2:=b1.grown hgrow (by omega) (fun k hk=>(hown.lt k hk).1)
 obtain ⟨ao,n',cap,rfl⟩:∃ao n' cap,v'= .slice ao n' cap:=by
  rcases hown'.2 with ⟨hv,_⟩ | ⟨g,cap,cur,hv,_⟩
  · exact ⟨_,_,_,hv⟩
  · exact ⟨_,_,_,hv⟩
 have HO:=zid hown';clear hbk hb2 c1 hown hown' hgrow;go_wp2_with fail;go_ret2;refine ⟨rfl,.inr ?_,b2.setCell (p:=⟨b,1,none⟩) hB _,HK.out.setCell ⟨b,1,none⟩ rfl _⟩;have hO:=HO.out;rw [HC.out] at hO
 exact Lib.BuilderAt.put (T:=64) (e:=5) hB HB.out (bs':=Lib.byteCells (l++s.data.toList)) (by
  rw [show (Lib.byteCells l).length+s.size=(Lib.byteCells (l++s.data.toList)).length by rw [Lib.byteCells_length,Lib.byteCells_length,List.length_append];rfl] at hO
  exact hO) (by decide)
end
namespace Wr
open Go.RowKit Qm Wq Mfs
theorem zem (l:List Int) (n:Nat) (cs:Array Value) (hcs:cs=(IL.vals l).toArray) (hn:n=l.length) (hl:l.length<=10) (hok:Nums l) (W:World) (g:Nat) (hg:W.heap.size=g):
 Calls Try.prog 20 #[.slice (some ⟨g,0,none⟩) n n] (W.alloc (.cells cs 3)) fun e w'=>e= .returned (.string ⟨(puts l).toArray⟩)/\Below W.heap.size W w':=by
 subst hcs hg;refine (zco _ n n l _ (zcs W l n hn (by unfold maxLen;omega) (fun x hx=>?_)) (by omega) hok).mono ?_
 · obtain ⟨i,hi,rfl⟩:=List.getElem_of_mem hx
   have:=hok i hi
   rw [show l.getD i 0=l[i] by simp [List.getD_eq_getElem?_getD,hi]] at this;exact ⟨by omega,this.2⟩
 · rintro e w' ⟨rfl,b⟩
   exact ⟨rfl,zaq b⟩
theorem zbh (l:List Int) (n:Nat) (cs:Array Value) (hcs:cs=(IL.vals l).toArray) (hn:n=l.length) (hl:l.length<=10) (hok:Nums l) (W:World) (g:Nat) (hg:W.heap.size=g):
 Calls Try.prog 22 #[.slice (some ⟨g,0,none⟩) n n] (W.alloc (.cells cs 3)) fun e w'=>e= .returned (.string ⟨(puts l).toArray⟩)/\Below W.heap.size W w':=by
 subst hcs hg;refine (zbW _ n n l _ (zcs W l n hn (by unfold maxLen;omega) (fun x hx=>?_)) (by omega) hok).mono ?_
 · obtain ⟨i,hi,rfl⟩:=List.getElem_of_mem hx
   have:=hok i hi
   rw [show l.getD i 0=l[i] by simp [List.getD_eq_getElem?_getD,hi]] at this;exact ⟨by omega,this.2⟩
 · rintro e w' ⟨rfl,b⟩
   exact ⟨rfl,zaq b⟩
theorem zeP {a b:Int} (ha:0<=a/\a<=9223372036854775807) (hb:0<=b/\b<=9223372036854775807):Nums [a,b]:=by
 intro i hi
 match i,hi with
 | 0,_=>exact ha
 | 1,_=>exact hb
theorem zbt {l:List Int} (h:∀x∈l,0<=x/\x<=9223372036854775807):Nums l:=by
 intro i hi;rw [show l.getD i 0=l[i] by simp [List.getD_eq_getElem?_getD,hi]];exact h _ (List.getElem_mem hi)
theorem zes {W:World} {k:Nat} {T:TypeId} {x y z:Value} (h:W.heap[k]?=some (.cells #[x,y,z] T (0,0))):W.cell? ⟨k,0,none⟩=some x/\W.cell? ⟨k,1,none⟩=some y/\W.cell? ⟨k,2,none⟩=some z:=
 ⟨by rw [cell_of_row _ _ 0 _ _ _ h];rfl,by rw [cell_of_row _ _ 1 _ _ _ h];rfl,by rw [cell_of_row _ _ 2 _ _ _ h];rfl⟩
theorem zcD {l:List Rp.Rec} {k:Nat} (hk:k<l.length):zaA (l.take (k+1))=zaA (l.take k)++recB (l.getD k Rp.zero):=by
 rw [List.take_succ_eq_append_getElem hk,zcE,show l.getD k Rp.zero=l[k] by simp [List.getD_eq_getElem?_getD,hk]]
theorem zcV {l:List Rp.Rec} (h:∀r∈l,Rp.Ok r) (k:Nat):(zaA (l.take k)).length<=82*k:=by
 have h1:=zck (l.take k) fun r hr=>(h r (List.mem_of_mem_take hr)).2.2.2.2;have h2:(l.take k).length<=k:=List.length_take_le _ _;omega
theorem bel_kept {b:Nat} {w w':World} (h:Lib.OthersKept 5 (some b) w w') {q:Nat} {T:TypeId} {cs:Array Value} {fz:Nat×Nat} (hT:T≠5) (hb:q≠b) (hq:w.heap[q]?=some (.cells cs T fz)):w'.heap[q]?=some (.cells cs T fz):=
 h q _ hq (fun e=>hb (by injection e)) (fun c f e=>hT (by injection e))
theorem tad_any (va:Option Addr) (vn vc:Nat) (l:List Rp.Rec) (w:World) (hv:zae w (.slice va vn vc) l) (hok:∀r∈l,Rp.Ok r) (h64:l.length<=64):
 Calls Try.prog 42 #[.slice va vn vc] w fun e w'=>e= .returned (.string ⟨(zaA l).toArray⟩)/\Below w.heap.size w w':=by
 obtain ⟨hvl,_⟩:=za0 hv
 have hvn:vn<=64:=by omega
 have HV:=zid hv;have HL:=zid hvl;have HOK:=zid hok;clear hv hvl hok h64;obtain ⟨RR,hRR⟩:∃RR,zaA l=RR:=⟨_,rfl⟩;rw [hRR];have HRR:=zid hRR;clear hRR
 go_enter Try.func42,Try.ntmps42
 go_wp2_with fail;have hin:Built w.heap.size w.heap.size (zaA (l.take 0)) (w.alloc (.cells #[.pointer none,.slice none 0 0] 64))/\Below w.heap.size w (w.alloc (.cells #[.pointer none,.slice none 0 0] 64)):=⟨Built.new w,(Below.refl _ _).alloc (Nat.le_refl _) _⟩;generalize World.alloc w _=w1 at hin ⊢
 go_loopw [8] (fun i wr=>∃k:Nat,k<=vn/\i= .int .i64 k/\Hid (Built w.heap.size w.heap.size (zaA (l.take k)) wr/\Below w.heap.size w wr)) (fun i _=>vn-(intOf i).toNat)
 case atStart=>exact ⟨0,Nat.zero_le _,rfl,zid hin⟩
 case round=>
  obtain ⟨k,hk,rfl,HR⟩:=hrel
  by_cases hlt:k<vn
  · obtain ⟨g,off,rfl,c0,c1,c2⟩:=zbw (zab HV.out HR.out.2) hlt
    have hlt':k<l.length:=by rw [<-HL.out];exact hlt
    have hr:=HOK.out _ (show l.getD k Rp.zero∈l by rw [show l.getD k Rp.zero=l[k] by simp [List.getD_eq_getElem?_getD,hlt']];exact List.getElem_mem _);have HT:=zid (zcD hlt');have hRl:=zcV HOK.out k
    have hlb:w.heap.size<wr.heap.size:=by
     rcases HR.out.1 with h | h
     · exact h.lt
     · exact h.lt
    clear hlt';generalize l.getD k Rp.zero=r at*;have ht0:=hr.2.2.1;have ht1:=hr.2.2.2.1;have hd:=hr.2.2.2.2;have NA:=zid (zem [r.t,(r.d.size:Int)] 2 #[.int .i64 r.t,.int .i64 (r.d.size:Int)] rfl rfl (by simp) (zeP ⟨ht0,by omega⟩ ⟨by omega,by omega⟩));have hpl:=zaC [r.t,(r.d.size:Int)];have HE:=zid (show recB r=puts [r.t,(r.d.size:Int)]++r.d.data.toList from rfl);have hll:([r.t,(r.d.size:Int)]:List Int).length=2:=rfl;rw [hll] at hpl;generalize puts [r.t,(r.d.size:Int)]=f at*;generalize zaA (l.take k)=R at*;have HFL:=zid (show R.length+(⟨f.toArray⟩:ByteArray).size<=140737488355328 by rw [zai];omega);have HFL2:=zid (show (R++(⟨f.toArray⟩:ByteArray).data.toList).length+r.d.size<=140737488355328 by rw [List.length_append];show R.length+f.length+r.d.size<=_;omega);have HB:=zid HR.out.1;have bel:=zid HR.out.2;have G0:=zid (heap_alloc_new wr (.cells #[.int .i64 r.a,.int .i64 r.t,.string r.d] 41));have HA:=zid ((Below.refl wr.heap.size wr).alloc (Nat.le_refl _) (.cells #[.int .i64 r.a,.int .i64 r.t,.string r.d] 41));clear hRl hr hll hpl;go_wp2_with fail;refine (NA.out _ _ (by simp)).mono ?_;rintro e w2 ⟨rfl,b2⟩;have b02:=zaq b2;have HB2:=zid (HB.out.below b02);have bel2:=zid (bel.out.trans (b02.mono bel.out.size));have G2:=zid ((b2.block wr.heap.size (by simp)).trans G0.out);clear b2 b02;go_wp2_with fail;refine (zeu _ _ _ _ _ HB2.out HFL.out bel2.out.size).mono ?_;rintro e w3 ⟨rfl,hb3,b3,k3⟩;have HB3:=zid hb3;have bel3:=zid (bel2.out.trans b3);have G3:=bel_kept k3 (by decide) (by omega) G2.out;obtain ⟨z0,z1,z2⟩:=zes G3;clear hb3 b3 k3 G3;go_wp2_with fail;refine (zdc _ _ _ _ _ HB3.out HFL2.out bel3.out.size).mono ?_;rintro e w4 ⟨rfl,hb4,b4⟩;have HB4:=zid hb4;have bel4:=zid (bel3.out.trans b4);clear hb4 b4;go_wp2_with fail
    go_roundw
    case rel=>exact ⟨k+1,by omega,by go_num,zid ⟨by rw [HT.out,HE.out, <-List.append_assoc];exact HB4.out,bel4.out⟩⟩
    case measure=>simp [intOf];omega
  · obtain rfl:k=vn:=by omega
    have HB:=zid (show Built w.heap.size w.heap.size RR wr from by have:=HR.out.1;rwa [List.take_of_length_le (by rw [HL.out];exact Nat.le_refl _),HRR.out] at this)
    have bel:=zid HR.out.2;clear HR;go_wp2_with fail;refine (Try.Builder_String_any _ _ _ _ HB.out bel.out.size).mono ?_;rintro e w3 ⟨rfl,b3⟩;have b03:=zid (bel.out.trans b3);clear b3;go_wp2_with fail;go_ret;exact ⟨rfl,b03.out⟩
end Wr
end Go.Proofs.Ytmkdcpjlhphhiaa

/-
  Parts of what the laws of this seat stand on:FoldRight.
-/
import Derived.Test.YtgmppfpllogdcaaGreatBi1
import Derived.Laws.StructEq
import Derived.Outline
import Derived.Test.YtgmppfpllogdcaaGreatBi30
set_option maxRecDepth 100000
set_option maxHeartbeats 6400000
namespace Go.Proofs.YtgmppfpllogdcaaGreat
section
open Go.RowKit
def Ch (l:List Fp.Pr) (k:Nat):Prop:=(∀i,i<k->Fp.OkV (l.getD i Fp.zero).v)/\∀i,i+1<k->(l.getD i Fp.zero).k.toNat<(l.getD (i+1) Fp.zero).k.toNat
theorem Ch.zero (l:List Fp.Pr):Ch l 0:=⟨fun i h=>by omega,fun i h=>by omega⟩
theorem Ch.one {l:List Fp.Pr} (h:Fp.OkV (l.getD 0 Fp.zero).v):Ch l 1:=by
 refine ⟨fun i hi=>?_,fun i h=>by omega⟩
 obtain rfl:i=0:=by omega
 exact h
theorem Ch.next {l:List Fp.Pr} {k:Nat} (h:Ch l (k+1)) (h1:Fp.OkV (l.getD (k+1) Fp.zero).v) (h2:(l.getD k Fp.zero).k.toNat<(l.getD (k+1) Fp.zero).k.toNat):Ch l (k+1+1):=by
 refine ⟨fun i hi=>?_,fun i hi=>?_⟩
 · rcases Nat.lt_or_ge i (k+1) with h3 | h3
   · exact h.1 i h3
   · obtain rfl:i=k+1:=by omega
     exact h1
 · rcases Nat.lt_or_ge (i+1) (k+1) with h3 | h3
   · exact h.2 i h3
   · obtain rfl:i=k:=by omega
     exact h2
theorem Ch.st {l:List Fp.Pr} (h:Ch l l.length):Fp.St l:=by
 have up:∀j,j<l.length->∀i,i<j->(l.getD i Fp.zero).k.toNat<(l.getD j Fp.zero).k.toNat:=by
  intro j
  induction j with
  | zero=>intro _ i hi;omega
  | succ j ih=>
   intro hj i hi;have h1:=h.2 j hj
   rcases Nat.lt_or_ge i j with h2 | h2
   · have:=ih (by omega) i h2;omega
   · obtain rfl:i=j:=by omega
     exact h1
 refine ⟨fun p hp=>?_,?_⟩
 · obtain ⟨i,hi,rfl⟩:=List.getElem_of_mem hp
   rw [<-zbK hi]
   exact h.1 i hi
 · unfold Fp.Up
   rw [List.pairwise_iff_getElem]
   intro i j hi hj hij;rw [<-zbK hi, <-zbK hj];exact up j hj i hij
theorem st_val {l:List Fp.Pr} (h:Fp.St l) {k:Nat} (hk:k<l.length):Fp.OkV (l.getD k Fp.zero).v:=by
 rw [zbK hk];exact h.1 _ (List.getElem_mem _)
theorem st_up {l:List Fp.Pr} (h:Fp.St l) {k:Nat} (hk:k+1<l.length):(l.getD k Fp.zero).k.toNat<(l.getD (k+1) Fp.zero).k.toNat:=by
 rw [zbK hk,zbK (by omega)];exact h.2.at hk (by omega)
theorem zjm (l:List Fp.Pr) (b off cap:Nat) (w:World) (hm:l.length<=9223372036854775807)
 (hc:∀i,i<l.length->w.cell? ⟨b,off+i*2,none⟩=some (.int .u8 ((l.getD i Fp.zero).k.toNat:Int))/\w.cell? ⟨b,off+i*2+1,none⟩=some (.string (l.getD i Fp.zero).v)):
 Calls Tryz.prog 92 #[.slice (some ⟨b,off,none⟩) l.length cap] w fun e w'=>e= .returned (.bool (Fp.stB l))/\Below w.heap.size w w':=by
 have HC:=zid hc;have HY:=zid fun (h:Ch l l.length)=>Fp.stB_yes h.st;have HV:=zid fun (k:Nat) (hk:k<l.length) (h:¬Fp.OkV (l.getD k Fp.zero).v)=>Fp.stB_no fun hs=>h (st_val hs hk);have HU:=zid fun (k:Nat) (hk:k+1<l.length) (h:¬(l.getD k Fp.zero).k.toNat<(l.getD (k+1) Fp.zero).k.toNat)=>Fp.stB_no fun hs=>h (st_up hs hk);clear hc;generalize Fp.stB l=B at*;obtain ⟨len,hlen⟩:∃len,l.length=len:=⟨_,rfl⟩;rw [hlen] at HC HY HV HU hm ⊢;clear hlen
 go_enter Tryz.func92,Tryz.ntmps92
 go_wp2_with fail
 go_loopw [7] (fun i wr=>∃k:Nat,k<=len/\i= .int .i64 k/\Ch l k/\Below w.heap.size w wr) (fun i _=>len-(intOf i).toNat)
 case atStart=>exact ⟨0,Nat.zero_le _,rfl,Ch.zero l,Below.refl _ _⟩
 case round=>
  obtain ⟨k,hk,rfl,hch,bel⟩:=hrel;have HCH:=zid hch;clear hch
  by_cases hlt:k<len
  · obtain ⟨c0,c1⟩:=HC.out k hlt
    have hbb:=block_lt_of_cell c0
    have z0:wr.cell? ⟨b,off+k*2,none⟩=some (.int .u8 ((l.getD k Fp.zero).k.toNat:Int)):=by rw [bel.cell (p:=⟨b,off+k*2,none⟩) hbb];exact c0
    have z1:wr.cell? ⟨b,off+k*2+1,none⟩=some (.string (l.getD k Fp.zero).v):=by rw [bel.cell (p:=⟨b,off+k*2+1,none⟩) hbb];exact c1
    clear c0 c1;have HVK:=zid (HV.out k hlt);have belA:=zid fun o=>bel.alloc bel.size o;have hbw:=Nat.lt_of_lt_of_le hbb bel.size
    by_cases hok:Fp.OkV (l.getD k Fp.zero).v
    · have ho1:(1:Int)<=((l.getD k Fp.zero).v.size:Int):=by have:=hok.1;omega
      have ho2:((l.getD k Fp.zero).v.size:Int)<=63:=by have:=hok.2;omega
      have HOK:=zid hok;clear hok
      rcases k with _ | j
      · have HN:=zid (Ch.one HOK.out)
        rw [Nat.zero_mul,Nat.add_zero] at z0 z1
        generalize l.getD 0 Fp.zero=p at*;go_wp2_with fail
        go_quiet (fail)
        go_wp2_with fail
        go_roundw
        case rel=>exact ⟨1,by omega,by go_num,HN.out,((belA.out _).trans ((zae _).mono (belA.out _).size))⟩
        case measure=>simp [intOf];omega
      · obtain ⟨d0,_⟩:=HC.out j (by omega)
        have y0:wr.cell? ⟨b,off+j*2,none⟩=some (.int .u8 ((l.getD j Fp.zero).k.toNat:Int)):=by rw [bel.cell (p:=⟨b,off+j*2,none⟩) hbb];exact d0
        clear d0;have HN:=zid fun h=>HCH.out.next HOK.out h;have HNO:=zid fun h=>HU.out j hlt h;generalize l.getD (j+1) Fp.zero=p at*;generalize l.getD j Fp.zero=q at*
        by_cases hup:q.k.toNat<p.k.toNat
        · have HN2:=zid (HN.out hup)
          have hd:decide (p.k.toNat<=q.k.toNat)=false:=by simp;omega
          clear hup;go_wp2_with fail
          go_quiet (fail)
          go_wp2_with fail
          go_roundw
          case rel=>exact ⟨j+1+1,by omega,by go_num,HN2.out,((belA.out _).trans ((zae _).mono (belA.out _).size))⟩
          case measure=>simp [intOf];omega
        · have HF:=zid (HNO.out hup)
          have hd:decide (p.k.toNat<=q.k.toNat)=true:=by simp;omega
          clear hup;go_wp2_with fail
          go_quiet (fail)
          go_wp2_with fail;go_ret;exact ⟨by rw [HF.out];rfl,((belA.out _).trans ((zae _).mono (belA.out _).size))⟩
    · have HF:=zid (HVK.out hok)
      unfold Fp.OkV at hok
      generalize l.getD k Fp.zero=p at*
      by_cases h1:1<=p.v.size
      · have h2:(63:Int)<(p.v.size:Int):=by omega
        have h3:(1:Int)<=(p.v.size:Int):=by omega
        clear hok h1;go_wp2_with fail;go_ret;exact ⟨by rw [HF.out];rfl,belA.out _⟩
      · have h2:(p.v.size:Int)<1:=by omega
        clear hok h1
        go_wp2_with fail;go_ret;exact ⟨by rw [HF.out];rfl,belA.out _⟩
  · obtain rfl:k=len:=by omega
    have HF:=zid (HY.out HCH.out)
    go_wp2_with fail;go_ret;exact ⟨by rw [HF.out];rfl,bel⟩
theorem zjn (a:Option Addr) (cap:Nat) (w:World):
 Calls Tryz.prog 92 #[.slice a 0 cap] w fun e w'=>e= .returned (.bool true)/\Below w.heap.size w w':=by
 go_enter Tryz.func92,Tryz.ntmps92
 go_wp2_with fail;refine wp_loop_rounds 1 ?_;rw [rounds_succ];go_wp2_with fail;go_ret;exact ⟨rfl,Below.refl _ _⟩
theorem zjH (v:Value) (l:List Fp.Pr) (w:World) (h:zaY w v l):
 Calls Tryz.prog 92 #[v] w fun e w'=>e= .returned (.bool (Fp.stB l))/\Below w.heap.size w w':=by
 obtain ⟨a,cap,rfl,hm,_,h3⟩:=h
 rcases h3 with rfl | ⟨b,off,rfl,h4⟩
 · rw [Fp.stB_yes Fp.St.nil]
   exact zjn a cap w
 · exact zjm l b off cap w (by unfold maxLen at hm;omega) h4
theorem zhv (l:List Fp.Pr) (b off cap:Nat) (w:World) (hm:l.length<=9223372036854775807)
 (hc:∀i,i<l.length->w.cell? ⟨b,off+i*2,none⟩=some (.int .u8 ((l.getD i Fp.zero).k.toNat:Int))/\w.cell? ⟨b,off+i*2+1,none⟩=some (.string (l.getD i Fp.zero).v)):
 Calls Tryz.prog 39 #[.slice (some ⟨b,off,none⟩) l.length cap] w fun e w'=>e= .returned (.bool (Fp.stB l))/\Below w.heap.size w w':=by
 have HC:=zid hc;have HY:=zid fun (h:Ch l l.length)=>Fp.stB_yes h.st;have HV:=zid fun (k:Nat) (hk:k<l.length) (h:¬Fp.OkV (l.getD k Fp.zero).v)=>Fp.stB_no fun hs=>h (st_val hs hk);have HU:=zid fun (k:Nat) (hk:k+1<l.length) (h:¬(l.getD k Fp.zero).k.toNat<(l.getD (k+1) Fp.zero).k.toNat)=>Fp.stB_no fun hs=>h (st_up hs hk);clear hc;generalize Fp.stB l=B at*;obtain ⟨len,hlen⟩:∃len,l.length=len:=⟨_,rfl⟩;rw [hlen] at HC HY HV HU hm ⊢;clear hlen
 go_enter Tryz.func39,Tryz.ntmps39
 go_wp2_with fail
 go_loopw [3] (fun i wr=>∃k n:Nat,k<=len/\i= .int .i64 k/\Ch l k/\wr=w.drewN n) (fun i _=>len-(intOf i).toNat)
 case atStart=>exact ⟨0,0,Nat.zero_le _,rfl,Ch.zero l,rfl⟩
 case round=>
  obtain ⟨k,n,hk,rfl,hch,rfl⟩:=hrel;have HCH:=zid hch;clear hch
  by_cases hlt:k<len
  · obtain ⟨z0,z1⟩:=HC.out k hlt
    have HVK:=zid (HV.out k hlt)
    by_cases hok:Fp.OkV (l.getD k Fp.zero).v
    · have ho1:(1:Int)<=((l.getD k Fp.zero).v.size:Int):=by have:=hok.1;omega
      have ho2:((l.getD k Fp.zero).v.size:Int)<=63:=by have:=hok.2;omega
      have HOK:=zid hok;clear hok
      rcases k with _ | j
      · have HN:=zid (Ch.one HOK.out)
        rw [Nat.zero_mul,Nat.add_zero] at z0 z1
        generalize l.getD 0 Fp.zero=p at*
        have g1:decide ((p.v.size:Int)<1)=false:=by simp;omega
        have g2:decide ((63:Int)<(p.v.size:Int))=false:=by simp;omega
        go_wp2_with fail
        go_quiet (fail)
        go_wp2_with fail
        go_roundw
        case rel=>exact ⟨1,_,by omega,by go_num,HN.out,rfl⟩
        case measure=>simp [intOf];omega
      · obtain ⟨y0,_⟩:=HC.out j (by omega)
        have HN:=zid fun h=>HCH.out.next HOK.out h
        have HNO:=zid fun h=>HU.out j hlt h;generalize l.getD (j+1) Fp.zero=p at*;generalize l.getD j Fp.zero=q at*
        have g1:decide ((p.v.size:Int)<1)=false:=by simp;omega
        have g2:decide ((63:Int)<(p.v.size:Int))=false:=by simp;omega
        by_cases hup:q.k.toNat<p.k.toNat
        · have HN2:=zid (HN.out hup)
          have hd:decide (p.k.toNat<=q.k.toNat)=false:=by simp;omega
          clear hup;go_wp2_with fail
          go_quiet (fail)
          go_wp2_with fail
          go_roundw
          case rel=>exact ⟨j+1+1,_,by omega,by go_num,HN2.out,rfl⟩
          case measure=>simp [intOf];omega
        · have HF:=zid (HNO.out hup)
          have hd:decide (p.k.toNat<=q.k.toNat)=true:=by simp;omega
          clear hup;go_wp2_with fail
          go_quiet (fail)
          go_wp2_with fail;go_ret;exact ⟨by rw [HF.out];rfl,zah (zae n) (zae _)⟩
    · have HF:=zid (HVK.out hok)
      unfold Fp.OkV at hok
      generalize l.getD k Fp.zero=p at*
      by_cases h1:1<=p.v.size
      · have g1:decide ((p.v.size:Int)<1)=false:=by simp;omega
        have g2:decide ((63:Int)<(p.v.size:Int))=true:=by simp;omega
        clear hok h1;go_wp2_with fail
        go_quiet (fail)
        go_wp2_with fail;go_ret;exact ⟨by rw [HF.out];rfl,zah (zae n) (zae _)⟩
      · have g1:decide ((p.v.size:Int)<1)=true:=by simp;omega
        clear hok h1
        go_wp2_with fail
        go_quiet (fail)
        go_wp2_with fail;go_ret;exact ⟨by rw [HF.out];rfl,zah (zae n) (zae _)⟩
  · obtain rfl:k=len:=by omega
    have HF:=zid (HY.out HCH.out)
    go_wp2_with fail;go_ret;exact ⟨by rw [HF.out];rfl,zae n⟩
theorem zhw (a:Option Addr) (cap:Nat) (w:World):
 Calls Tryz.prog 39 #[.slice a 0 cap] w fun e w'=>e= .returned (.bool true)/\Below w.heap.size w w':=by
 go_enter Tryz.func39,Tryz.ntmps39
 go_wp2_with fail;refine wp_loop_rounds 1 ?_;rw [rounds_succ];go_wp2_with fail;go_ret;exact ⟨rfl,Below.refl _ _⟩
theorem zhF (v:Value) (l:List Fp.Pr) (w:World) (h:zaY w v l):
 Calls Tryz.prog 39 #[v] w fun e w'=>e= .returned (.bool (Fp.stB l))/\Below w.heap.size w w':=by
 obtain ⟨a,cap,rfl,hm,_,h3⟩:=h
 rcases h3 with rfl | ⟨b,off,rfl,h4⟩
 · rw [Fp.stB_yes Fp.St.nil]
   exact zhw a cap w
 · exact zhv l b off cap w (by unfold maxLen at hm;omega) h4
theorem zfb (a b:Option Addr) (c d:Nat) (w:World):
 Calls Tryz.prog 14 #[.slice a 0 c,.slice b 0 d] w fun e w'=>e= .returned (.bool true)/\∃n,w'=w.drewN n:=by
 go_enter Tryz.func14,Tryz.ntmps14
 go_wp2_with fail;refine wp_loop_rounds 1 ?_;rw [rounds_succ];go_wp2_with fail;go_ret;exact ⟨rfl,0,rfl⟩
theorem zjG (l:List Fp.Pr) (a b o1 o2 c d:Nat) (w:World) (hm:l.length<=9223372036854775807)
 (hc1:∀i,i<l.length->w.cell? ⟨a,o1+i*2,none⟩=some (.int .u8 ((l.getD i Fp.zero).k.toNat:Int))/\w.cell? ⟨a,o1+i*2+1,none⟩=some (.string (l.getD i Fp.zero).v))
 (hc2:∀i,i<l.length->w.cell? ⟨b,o2+i*2,none⟩=some (.int .u8 ((l.getD i Fp.zero).k.toNat:Int))/\w.cell? ⟨b,o2+i*2+1,none⟩=some (.string (l.getD i Fp.zero).v)):
 Calls Tryz.prog 14 #[.slice (some ⟨a,o1,none⟩) l.length c,.slice (some ⟨b,o2,none⟩) l.length d] w fun e w'=>e= .returned (.bool true)/\∃n,w'=w.drewN n:=by
 have HC1:=zid hc1;have HC2:=zid hc2;clear hc1 hc2;generalize l.length=len at*
 go_enter Tryz.func14,Tryz.ntmps14
 go_wp2_with fail
 go_loopw [5] (fun i wr=>∃k n:Nat,k<=len/\i= .int .i64 k/\wr=w.drewN n) (fun i _=>len-(intOf i).toNat)
 case atStart=>exact ⟨0,0,Nat.zero_le _,rfl,rfl⟩
 case round=>
  obtain ⟨k,n,hk,rfl,rfl⟩:=hrel
  by_cases hlt:k<len
  · obtain ⟨c0,c1⟩:=HC1.out k hlt
    obtain ⟨d0,d1⟩:=HC2.out k hlt
    generalize l.getD k Fp.zero=r at*;go_wp2_with fail
    go_quiet (fail)
    go_wp2_with fail
    go_roundw
    case rel=>exact ⟨k+1,_,by omega,by go_num,rfl⟩
    case measure=>simp [intOf];omega
  · go_wp2_with fail
    go_ret
    exact ⟨rfl,_,rfl⟩
theorem fsame_ex (v1 v2:Value) (l:List Fp.Pr) (w:World) (h1:zaY w v1 l) (h2:zaY w v2 l):
 Calls Tryz.prog 14 #[v1,v2] w fun e w'=>e= .returned (.bool true)/\∃n,w'=w.drewN n:=by
 obtain ⟨a,c,rfl,m1,_,h3⟩:=h1;obtain ⟨b,d,rfl,_,_,h4⟩:=h2
 rcases h3 with rfl | ⟨a',o1,rfl,h3⟩
 · exact zfb a b c d w
 · rcases h4 with rfl | ⟨b',o2,rfl,h4⟩
   · exact zfb _ b c d w
   · exact zjG l a' b' o1 o2 c d w (by unfold maxLen at m1;omega) h3 h4
theorem zgU (v1 v2:Value) (l:List Fp.Pr) (w:World) (h1:zaY w v1 l) (h2:zaY w v2 l):
 Calls Tryz.prog 14 #[v1,v2] w fun e w'=>e= .returned (.bool true)/\Below w.heap.size w w':=by
 have key:Calls Tryz.prog 14 #[v1,v2] w fun e w'=>e= .returned (.bool true)/\∃n,w'=w.drewN n:=by
  exact fsame_ex v1 v2 l w h1 h2
 refine key.mono ?_;rintro e w' ⟨rfl,n,rfl⟩;exact ⟨rfl,zae n⟩
def fewP (l:List Fp.Pr):Bool:=decide (l.length<=300)&&l.all fun p=>decide (p.v.size<=100)
theorem fewP_yes {l:List Fp.Pr} (h:l.length<=300) (hs:∀i,i<l.length->(l.getD i Fp.zero).v.size<=100):fewP l=true:=by
 unfold fewP;rw [Bool.and_eq_true,List.all_eq_true];refine ⟨decide_eq_true h,fun p hp=>?_⟩;obtain ⟨i,hi,rfl⟩:=List.getElem_of_mem hp;rw [<-zbK hi];exact decide_eq_true (hs i hi)
theorem fewP_le {l:List Fp.Pr} (h:fewP l=true):l.length<=300:=by
 unfold fewP at h;rw [Bool.and_eq_true] at h;exact of_decide_eq_true h.1
end
end Go.Proofs.YtgmppfpllogdcaaGreat

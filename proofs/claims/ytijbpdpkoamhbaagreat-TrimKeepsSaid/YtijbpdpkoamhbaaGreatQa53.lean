/-
  Parts of what the laws of this seat stand on: Law13K.
-/
import Derived.Test.YtijbpdpkoamhbaaGreatQa1
import Derived.Test.YtijbpdpkoamhbaaGreatQa47
import Derived.Test.YtijbpdpkoamhbaaGreatQa52
set_option maxRecDepth 100000
set_option maxHeartbeats 6400000
namespace Go.Proofs.YtijbpdpkoamhbaaGreat
namespace Trm
open Go.RowKit So Dsk Rts Sto
theorem keeps13 (q : Int) (pa : Option Addr) (pn pc : Nat) (l : List Lg.Pa) (x y : Int) (w : World) (hq : 0 ≤ q ∧ q ≤ 255) (h : IsL PaL w (.slice pa pn pc) l) (hx : -9223372036854775808 ≤ x ∧ x ≤ 9223372036854775807) (hy : -9223372036854775808 ≤ y ∧ y ≤ 9223372036854775807) :
 Calls Tryz.prog 5 #[.int .u8 q, .slice pa pn pc, .agg #[.int .i64 x, .int .i64 y]] w fun e w' => e = .returned (.bool true) ∧ Below w.heap.size w w' := by
 have A0 := zid ((Below.refl w.heap.size w).alloc (Nat.le_refl _) (.cells #[.int .i64 x, .int .i64 y] 23))
 have X0 := heap_alloc_new w (.cells #[.int .i64 x, .int .i64 y] 23)
 have PL := zid fun (W : World) (hW : IsL PaL W (.slice pa pn pc) l) => play13_any (20 + q) pa pn pc l W (by omega) hW
 have HL := zid h
 have AW := zid fun W : World => awake13 W
 have hw20 : IntKind.i64.wrap (20 + q) = 20 + q := IntWalk.i64_in _ ⟨by omega, by omega⟩
 have hwq : IntKind.i64.wrap q = q := IntWalk.i64_in _ ⟨by omega, by omega⟩
 clear h
 go_enter Tryz.func5, Tryz.ntmps5
 go_upto_region 1 with (fail)
 generalize w.alloc _ = w0 at A0 X0 ⊢
 have HX0 := zid X0
 clear X0
 go_wp2_with fail
 refine (PL.out _ (HL.out.keep A0.out)).mono ?_
 rintro e w1 ⟨a1, n1, c1, a2, n2, c2, S, b, rfl, bel, hb, _⟩
 have B1 := zid (A0.out.trans (bel.mono A0.out.size))
 cases b with
 | false =>
  have al := zid (B1.out.alloc B1.out.size (.cells #[.slice a1 n1 c1, .int .i64 S.d.c, .bool S.d.a, .int .i64 S.d.l, .bool S.d.x, .int .i64 S.v, .slice a2 n2 c2, .int .i64 S.x, .int .i64 S.s, .int .i64 S.z, .int .u32 S.c] 32))
  clear bel hb
  unfold stVal
  dsimp only
  go_wp2_with fail
  refine (AW.out _).mono ?_
  rintro e w2 ⟨rfl, b2⟩
  have L2 := zid (al.out.trans (b2.mono al.out.size))
  clear b2
  go_wp2_with fail
  go_ret
  exact ⟨rfl, L2.out⟩
 | true =>
  obtain ⟨hl40, hSe, ks⟩ := hb rfl
  have G := play_g (q := 20 + q) (by omega) HL.out.ok hl40
  rw [← hSe] at G
  have HG := zid G
  have HGT := zid (G.trim (by decide) (by decide) x y)
  have F := trm_facts G (by decide) x y
  have TR := fun (a a' : Option Addr) (n c n' c' : Nat) (W : World) (h1 : IsL FL W (.slice a n c) S.d.f) (h2 : IsL SL W (.slice a' n' c') S.g) => trim13g HG.out (by omega) (by decide) (by decide) h1 h2 hx hy
  obtain ⟨⟨X, E⟩, hT⟩ : ∃ R, Lg.trimT S x y = R := ⟨_, rfl⟩
  rw [hT] at TR HGT F
  have HF := zid F
  dsimp only at HGT TR
  have SN := fun (a a' : Option Addr) (n c n' c' : Nat) (W : World) (h1 : IsL FL W (.slice a n c) X.d.f) (h2 : IsL SL W (.slice a' n' c') X.g) => snap13g HGT.out (by omega) (by decide) (by decide) h1 h2
  have hsz : ((⟨(Lg.snapT X).toArray⟩ : ByteArray).size : Int) = X.z := F.sn
  obtain ⟨sx, hsx⟩ : ∃ s : ByteArray, (⟨(Lg.snapT X).toArray⟩ : ByteArray) = s := ⟨_, rfl⟩
  rw [hsx] at SN hsz
  have e1 : ((sx.size : Int) != X.z) = false := by simp [hsz]
  have hne := HGT.out.ne
  have T2 := fun (hE : E = 0) (a a' : Option Addr) (n c n' c' : Nat) (W : World) (h1 : IsL FL W (.slice a n c) X.d.f) (h2 : IsL SL W (.slice a' n' c') X.g) => trim13g HGT.out (by omega) (by decide) (by decide) h1 h2 hx hy
  have hT0 : E = 0 → Lg.trimT X x y = (X, 0) := fun hE => by
   unfold Lg.trimT
   rw [F.pk hE]
   exact if_pos rfl
  have PK := zid fun (hE : E = 0) (a' : Option Addr) (n' c' : Nat) (W : World) (h2 : IsL SL W (.slice a' n' c') X.g) => (show Calls Tryz.prog 19 #[.slice a' n' c', .int .i64 x, .int .i64 y] W fun e w' => e = .returned (.int .i64 ((0 : Nat) : Int)) ∧ W = w' from rpick11_any a' n' c' X.g x y 0 W h2 h2.room (HGT.out.may (by omega) (by decide)) (by have := Lg.pickN_is X.g x y; rwa [F.pk hE] at this))
  have SMS := zid fun (a a' b b' : Option Addr) (n c n' c' m d m' d' : Nat) (W : World) (h1 : IsL FL W (.slice a n c) X.d.f) (h2 : IsL SL W (.slice a' n' c') X.g) (h3 : IsL FL W (.slice b m d) X.d.f) (h4 : IsL SL W (.slice b' m' d') X.g) => rsame12_yes (.slice a n c) (.slice a' n' c') (.slice b m d) (.slice b' m' d') X W h1 h2 h3 h4
  unfold stVal at TR SN T2 SMS
  replace TR := zid TR
  replace SN := zid SN
  replace T2 := zid T2
  replace hT0 := zid hT0
  have M1 := ((ms0 HX0.out (Nat.le_refl _) A0.out).call2 mcs mcs ks).alloc #[.slice a1 n1 c1, .int .i64 S.d.c, .bool S.d.a, .int .i64 S.d.l, .bool S.d.x, .int .i64 S.v, .slice a2 n2 c2, .int .i64 S.x, .int .i64 S.s, .int .i64 S.z, .int .u32 S.c] 32
  have HM1 := zid M1
  obtain ⟨⟨k0, k1, k2, k3, k4⟩, k5, k6, k7, k8, k9, k10⟩ := cellsS (M1.at_ mcs)
  obtain ⟨m0, m1⟩ := cells2 (M1.at_ (mcm mcs))
  have hwl : w.heap.size < w1.heap.size := Nat.lt_of_lt_of_le (Array.getElem?_eq_some_iff.1 HX0.out).1 bel.size
  clear M1 ks bel hb hT hSe F G hsz hsx PL HL hl40 A0 HX0 B1
  unfold stVal
  dsimp only
  go_wp2_with fail
  refine (TR.out _ _ _ _ _ _ _ (HM1.out.fl mcs) (HM1.out.sl mcs)).mono ?_
  rintro e w2 ⟨a3, n3, c3, a4, n4, c4, rfl, ks⟩
  have hn4 : ((n4 : Int) == 0) = false := by
   have h1 := ks.g.len.1
   have h2 := List.length_pos_iff.2 hne
   have h3 : X.g.length = n4 := h1.symm
   simp; omega
  have M2 := (HM1.out.call2 mcs mcs ks).alloc #[.slice a3 n3 c3, .int .i64 X.d.c, .bool X.d.a, .int .i64 X.d.l, .bool X.d.x, .int .i64 X.v, .slice a4 n4 c4, .int .i64 X.x, .int .i64 X.s, .int .i64 X.z, .int .u32 X.c] 32
  have hlt : w1.heap.size < w2.heap.size := Nat.lt_of_lt_of_le (HM1.out.lt mcs) ks.w.size
  have T3 := zid (show Th w w.heap.size w1.heap.size w2.heap.size x y (.slice a1 n1 c1) (.slice a2 n2 c2) (.slice a3 n3 c3) (.slice a4 n4 c4) S X _ from ⟨M2.sub (fun _ h => h) (fun p hp => by
   simp only [List.mem_cons, List.not_mem_nil, or_false] at hp ⊢
   rcases hp with rfl | rfl
   · exact .inl rfl
   · exact .inr (.inl rfl)) (fun p hp => by
   simp only [List.mem_cons, List.not_mem_nil, or_false] at hp ⊢
   rcases hp with rfl | rfl
   · exact .inl rfl
   · exact .inr (.inl rfl))⟩)
  clear M2 ks HM1 k0 k1 k2 k3 k4 k5 k6 k7 k8 k9 k10 m0 m1 TR hne
  unfold stVal
  dsimp only
  go_upto_region 5 with (fail)
  generalize World.alloc w2 _ = W2 at T3 ⊢
  generalize w1.heap.size = t at T3 hwl hlt ⊢
  generalize w2.heap.size = xx at T3 hlt ⊢
  go_cut [44] (fun v wc => v = .bool false ∧ Below W2.heap.size W2 wc)
  case first =>
   obtain ⟨⟨x0, x1, x2, x3, x4⟩, x5, x6, x7, x8, x9, x10⟩ := cellsS T3.out.ax
   have hl1 := T3.out.lx
   clear HG HGT HF AW T2 hT0 PK SMS
   go_region_held3 (fun W => (∀ b o, b < W2.heap.size → W.cell? ⟨b, o, none⟩ = W2.cell? ⟨b, o, none⟩) ∧ Below W2.heap.size W2 W) (first | with_reducible assumption | with_reducible exact KW.dr _ | with_reducible exact KW.keep (by assumption) (Below.refl _ _).drew | with_reducible exact KW.keep (by assumption) (by assumption)) (first | (go_at_call 12; refine (SN.out _ _ _ _ _ _ _ (T3.out.f2.keep (KW.bel (by assumption))) (T3.out.g2.keep (KW.bel (by assumption)))).mono ?_; rintro e w5 ⟨rfl, q5⟩; have s5 := KW.keep (by assumption) q5))
   all_goals
    rename_i hh
    have LB := zid (KW.bel hh)
    clear hh
    go_wp2_with fail
    go_meet
    case rel => exact ⟨rfl, LB.out⟩
  case rest =>
   obtain ⟨rfl, bc⟩ := hcut
   have T4 := zid (T3.out.keep bc)
   clear bc T3 SN
   by_cases hE : E = 0
   case neg =>
    have e2 : (E != 0) = true := by simpa using hE
    clear hE HG HGT HF T2 hT0 PK SMS
    go_wp2_with fail
    refine (AW.out _).mono ?_
    rintro e w5 ⟨rfl, b5⟩
    have L5 := zid (T4.out.w.trans (b5.mono T4.out.w.size))
    clear b5
    go_wp2_with fail
    go_ret
    exact ⟨rfl, L5.out⟩
   case pos =>
    subst hE
    have T2' := fun (a a' : Option Addr) (n c n' c' : Nat) (W : World) => T2.out rfl a a' n c n' c' W
    rw [hT0.out rfl] at T2'
    have PK' := PK.out rfl
    have TR2 := zid T2'
    have PK2 := zid PK'
    obtain ⟨⟨x0, x1, x2, x3, x4⟩, x5, x6, x7, x8, x9, x10⟩ := cellsS T4.out.ax
    obtain ⟨m0, m1⟩ := cells2 T4.out.ah
    clear T2' PK' PK T2 hT0 HG HGT HF
    go_wp2_with fail
    refine (TR2.out _ _ _ _ _ _ _ T4.out.f2 T4.out.g2).mono ?_
    rintro e w5 ⟨a5, n5, c5, a6, n6, c6, rfl, ks⟩
    have M5 := (T4.out.m.call2 mcs mcs ks).alloc #[.slice a5 n5 c5, .int .i64 X.d.c, .bool X.d.a, .int .i64 X.d.l, .bool X.d.x, .int .i64 X.v, .slice a6 n6 c6, .int .i64 X.x, .int .i64 X.s, .int .i64 X.z, .int .u32 X.c] 32
    have HM5 := zid M5
    clear M5 ks TR2 T4 x0 x1 x2 x3 x4 x5 x6 x7 x8 x9 x10 m0 m1
    unfold stVal
    dsimp only
    go_wp2_with fail
    refine (AW.out _).mono ?_
    rintro e w6 ⟨rfl, b6⟩
    have M6 := HM5.out.keep b6
    have HM6 := zid M6
    obtain ⟨⟨x0, x1, x2, x3, x4⟩, x5, x6, x7, x8, x9, x10⟩ := cellsS (M6.at_ (t := xx) (mcm mcs))
    obtain ⟨m0, m1⟩ := cells2 (M6.at_ (t := w.heap.size) (mcm (mcm (mcm mcs))))
    clear M6 HM5 b6 AW
    go_wp2_with fail
    refine (PK2.out _ _ _ _ (HM6.out.sl (mcm mcs))).mono ?_
    rintro e w7 ⟨rfl, rfl⟩
    obtain ⟨⟨y0, y1, y2, y3, y4⟩, y5, y6, y7, y8, y9, y10⟩ := cellsS (HM6.out.at_ (t := w5.heap.size) mcs)
    go_wp2_with fail
    refine (SMS.out _ _ _ _ _ _ _ _ _ _ _ _ _ (HM6.out.fl (mcm mcs)) (HM6.out.sl (mcm mcs)) (HM6.out.fl mcs) (HM6.out.sl mcs)).mono ?_
    rintro e w8 ⟨rfl, b8⟩
    have L8 := zid (HM6.out.w.trans (b8.mono HM6.out.w.size))
    clear b8
    go_wp2_with fail
    go_ret
    exact ⟨rfl, L8.out⟩
end Trm
end Go.Proofs.YtijbpdpkoamhbaaGreat

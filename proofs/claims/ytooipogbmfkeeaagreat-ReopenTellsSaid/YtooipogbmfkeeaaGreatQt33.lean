/-
  Parts of what the laws of this seat stand on: RoSet, MrRight, MrPut.
-/
import Derived.Test.YtooipogbmfkeeaaGreatQt1
import Derived.Test.YtooipogbmfkeeaaGreatQt14
import Derived.Test.YtooipogbmfkeeaaGreatQt16
import Derived.Test.YtooipogbmfkeeaaGreatQt32
set_option maxRecDepth 100000
set_option maxHeartbeats 6400000
namespace Go.Proofs.YtooipogbmfkeeaaGreat
namespace Ro
open Go.RowKit So Dsk Rts Sto
def sC (fv gv : Value) (S : St) : Obj := .cells #[fv, .int .i64 S.d.c, .bool S.d.a, .int .i64 S.d.l, .bool S.d.x, .int .i64 S.v, gv, .int .i64 S.x, .int .i64 S.s, .int .i64 S.z, .int .u32 S.c] 30
theorem NwR.cw {w W : World} {v0 fv : Value} {X : Obj} {l : List Dp.Fl} {D : Dp.Dk} {t : Nat} (h : NwR w w.heap.size v0 (.slice none 0 0) [(w.heap.size + 1, dZ), (w.heap.size, X)] [(fv, l)] [] D t W) : ∃ a n c, Cw w v0 t (.slice a n c) D (w.heap.size + 1) dZ [(w.heap.size, X)] W := by
 obtain ⟨a, n, c, h1, h2⟩ := h
 refine ⟨a, n, c, h1 _ mcs, fun p hp => ⟨h1 p (mcm hp), ?_⟩, h2.sub (fun _ h => h) (fun p hp => ?_) (fun _ h => h)⟩
 · rw [List.mem_singleton] at hp
   rw [hp]
   show w.heap.size ≠ w.heap.size + 1
   omega
 · rw [List.mem_singleton] at hp
   rw [hp]
   exact mcs
theorem bd_cutT {D : Dp.Dk} {k : Nat} (h : Bd D k) (n : ByteArray) (m : Nat) (hm : m ≤ 9223372036854775807) : Bd (Lg.cutT D n m).1 (k + 1) := by
 unfold Lg.cutT
 split
 · exact Lg.bd_cut h n m hm
 · exact h.mono (Nat.le_succ k)
theorem settled14_any (fa ga : Option Addr) (fn fc gn gc : Nat) (S : St) (w : World) (k : Nat) (hv : IsL FL w (.slice fa fn fc) S.d.f) (hg : IsL Rts.SL w (.slice ga gn gc) S.g) (hn : S.g ≠ []) (hB : ∀ g ∈ S.g, (0 ≤ g.b ∧ g.b ≤ 1099511627776) ∧ 0 ≤ g.z ∧ g.z ≤ 1000000000000) (hl : gn ≤ 1000) (hS : Bd S.d k) (hk : k ≤ 10000) :
 Calls Tryz.prog 25 #[stVal (.slice fa fn fc) (.slice ga gn gc) S] w (DkAns w (.slice fa fn fc) (Lg.settT S)) := by
 have hgl := hg.len.1
 have hpos : 0 < S.g.length := List.length_pos_iff.2 hn
 obtain ⟨m1, rfl⟩ : ∃ m, gn = m + 1 := ⟨gn - 1, by omega⟩
 have hm : S.g.length - 1 = m1 := by omega
 have hlast := hB (lastG S) (by unfold lastG; rw [getD_lt (show S.g.length - 1 < S.g.length by omega)]; exact List.getElem_mem _)
 have IU := zid fun (W : World) (h : IsL Rts.SL W (.slice ga (m1 + 1) gc) S.g) => inUse14_any (.slice fa fn fc) ga (m1 + 1) gc S W h hn (fun g hg => (hB g hg).1) hl
 have CL := fun (W : World) (mv : Value) (h : IsL FL W (.slice fa fn fc) S.d.f) (hs : IsSet W mv (Lg.useS S)) => cleared14_any fa fn fc S.d mv (Lg.useS S) W k h hS hk hs
 have HB1 := Lg.bd_sweep hS (Lg.useS S)
 have HR := show Lg.settT S = if (Lg.sweep S.d (Lg.useS S)).2 ≠ 0 then Lg.sweep S.d (Lg.useS S) else Lg.endT (Lg.sweep S.d (Lg.useS S)).1 (segN (lastG S).b) (lastG S).z.toNat from rfl
 obtain ⟨⟨D1, E1⟩, h1⟩ : ∃ R, Lg.sweep S.d (Lg.useS S) = R := ⟨_, rfl⟩
 rw [h1] at CL HB1 HR
 dsimp only at HB1 HR
 have HL := zid (show S.g.getD m1 Rt.zero = lastG S by unfold lastG; rw [hm])
 have HG := zid hg
 obtain ⟨g, hgg⟩ : ∃ g, lastG S = g := ⟨_, rfl⟩
 rw [hgg] at HL HR hlast
 obtain ⟨z, hz⟩ : ∃ z : Nat, g.z = (z : Int) := ⟨g.z.toNat, by omega⟩
 have hzt : g.z.toNat = z := by omega
 rw [hzt] at HR
 obtain ⟨nn, hnn⟩ : ∃ nn, segN g.b = nn := ⟨_, rfl⟩
 have SGN := fun W : World => seg_any g.b W (by omega)
 rw [hnn] at HR
 have HNN := show (⟨(Np.nameL 115 g.b).toArray⟩ : ByteArray) = nn from hnn
 rw [HNN] at SGN
 have CT := fun (a : Option Addr) (n c : Nat) (W : World) (h : IsL FL W (.slice a n c) D1.f) => cut14_any a n c D1 nn z W (k + k) h HB1 (by omega) (by omega)
 have HB2 := bd_cutT HB1 nn z (by omega)
 have HE := show Lg.endT D1 nn z = if (Lg.cutT D1 nn z).2 ≠ 0 then Lg.cutT D1 nn z else Dp.sync (Lg.cutT D1 nn z).1 nn from rfl
 obtain ⟨⟨D2, E2⟩, h2⟩ : ∃ R, Lg.cutT D1 nn z = R := ⟨_, rfl⟩
 rw [h2] at CT HB2 HE
 dsimp only at HB2 HE
 have SY := fun (a : Option Addr) (n c : Nat) (W : World) (h : IsL FL W (.slice a n c) D2.f) => sync_s HB2 (by omega) nn h
 obtain ⟨⟨D3, E3⟩, h3⟩ : ∃ R, Dp.sync D2 nn = R := ⟨_, rfl⟩
 rw [h3] at SY HE
 have M0 := ((Ms.start (gv := .slice none 0 0) (lg := []) hv (IsL.nil w none 0)).alloc #[.slice fa fn fc, .int .i64 S.d.c, .bool S.d.a, .int .i64 S.d.l, .bool S.d.x, .int .i64 S.v, .slice ga (m1 + 1) gc, .int .i64 S.x, .int .i64 S.s, .int .i64 S.z, .int .u32 S.c] 30).alloc #[.slice none 0 0, .int .i64 0, .bool false, .int .i64 0, .bool false] 24
 rw [World.size_alloc] at M0
 have HM0 := zid (M0.sub (gs' := []) (fun _ h => h) (fun _ h => h) (fun p hp => absurd hp List.not_mem_nil))
 unfold stVal at IU ⊢
 unfold dkVal at CL CT SY
 replace CL := zid CL
 replace CT := zid CT
 replace SY := zid SY
 replace SGN := zid SGN
 replace HR := zid HR
 replace HE := zid HE
 have HZ := zid hz
 clear hv hg hn hB hS HB1 HB2 h1 h2 h3 hgl hpos hm hgg hnn HNN hlast hz hzt M0
 go_enter Tryz.func25, Tryz.ntmps25
 go_upto_region 1 with (fail)
 obtain ⟨w0, hw0⟩ : ∃ w0, (w.alloc (.cells #[.slice fa fn fc, .int .i64 S.d.c, .bool S.d.a, .int .i64 S.d.l, .bool S.d.x, .int .i64 S.v, .slice ga (m1 + 1) gc, .int .i64 S.x, .int .i64 S.s, .int .i64 S.z, .int .u32 S.c] 30)).alloc (.cells #[.slice none 0 0, .int .i64 0, .bool false, .int .i64 0, .bool false] 24) = w0 := ⟨_, rfl⟩
 rw [hw0] at HM0 ⊢
 clear hw0
 have TT := zid (show Ms w w.heap.size (.slice fa fn fc) (.slice none 0 0) [(w.heap.size + 1, dZ), (w.heap.size, sC (.slice fa fn fc) (.slice ga (m1 + 1) gc) S)] [(.slice fa fn fc, S.d.f)] [] w0 from HM0.out)
 clear HM0
 obtain ⟨⟨k0, k1, k2, k3, k4⟩, k5, k6, k7, k8, k9, k10⟩ := cellsS (TT.out.at_ (t := w.heap.size) (mcm mcs))
 have HGW := zid fun (W : World) (h : Below w0.heap.size w0 W) => HG.out.keep (TT.out.w.trans (h.mono TT.out.le))
 have hlt : w.heap.size < w0.heap.size := TT.out.lt (t := w.heap.size) (mcm mcs)
 go_cut [4, 5] (fun p v wc => ∃ t : Nat, p = .pointer (some ⟨t, 0, none⟩) ∧ v = .int .i64 E1 ∧ NwR w w.heap.size (.slice fa fn fc) (.slice none 0 0) [(w.heap.size + 1, dZ), (w.heap.size, sC (.slice fa fn fc) (.slice ga (m1 + 1) gc) S)] [(.slice fa fn fc, S.d.f)] [] D1 t wc)
 case first =>
  go_region_held3 (fun W => (∀ b o, b < w0.heap.size → W.cell? ⟨b, o, none⟩ = w0.cell? ⟨b, o, none⟩) ∧ Below w0.heap.size w0 W) (first | with_reducible assumption | with_reducible exact KW.al5 (by assumption) | with_reducible exact KW.al (by assumption) | with_reducible exact KW.ad (KW.start _) | with_reducible exact KW.ad (by assumption) | with_reducible exact KW.dr _ | with_reducible exact KW.st5 (by assumption) (by assumption) | with_reducible exact KW.keep (by assumption) (Below.refl _ _).drew | with_reducible exact KW.keep (by assumption) (by assumption)) (first | (go_at_call 53; refine (IU.out _ (HGW.out _ (KW.bel (by assumption)))).mono ?_; rintro e w4 ⟨m, n, rfl, hm4, hs4, b4⟩; have s4 := KW.keep (by assumption) b4; have h4 : w0.heap.size ≤ w4.heap.size := s4.2.size; (first | (with_reducible have z4 := hkeep (alloc_drew_new _ _ _) b4; have y4 : w0.heap.size < w4.heap.size := Nat.lt_of_lt_of_le (alloc_drew_lt _ _) b4.size; have x4 : w0.heap.size ≤ w0.heap.size := Nat.le_refl _) | skip)) | (go_at_call 48; refine (CL.out _ _ ((TT.out.fl mcs).keep (KW.bel (by assumption))) (.inr ⟨_, _, rfl, by first | exact hs4 | exact hs4.keep (al_bel _ _) | exact hs4.keep (al_bel _ _).drew⟩)).mono ?_; rintro e w5 ⟨a5, n5, c5, rfl, k5'⟩; have q5 := k5'.w; have s5 := KW.keep (by assumption) q5; have q4 := KW.at (by assumption) q5; (first | (with_reducible have z5 := hkeep (heap_alloc_new _ _) q5) | (with_reducible have z5 := hkeep z4 q5) | skip); (first | (have zc := cells5 z5; have zf := frozen5 z5; obtain ⟨y0, y1, y2, y3, y4⟩ := zc; obtain ⟨yf0, yf1, yf2, yf3, yf4⟩ := zf) | skip); unfold dkVal))
  all_goals
   go_wp2_with fail
   go_meet
   case rel =>
    first
     | (refine ⟨_, rfl, rfl, ?_⟩; with_reducible exact NwR.A TT.out q4 k5')
     | (refine ⟨_, rfl, rfl, ?_⟩; with_reducible exact NwR.B TT.out q4 k5' z5 (by assumption) (by first | assumption | simp))
 case rest =>
  clear k0 k1 k2 k3 k4 k5 k6 k7 k8 k9 k10 IU CL TT HGW
  obtain ⟨t, rfl, rfl, NW⟩ := hcut
  obtain ⟨a, n, c, C1⟩ := NW.cw
  clear NW
  have C1 := zid C1
  obtain ⟨d0, d1, d2, d3, d4⟩ := cells5 C1.out.d
  obtain ⟨z0, z1, z2, z3, z4⟩ := cells5 C1.out.r
  obtain ⟨zf0, zf1, zf2, zf3, zf4⟩ := frozen5 C1.out.r
  by_cases hE1 : E1 = 0
  case neg =>
   have HF := zid (HR.out.trans (if_pos hE1))
   have he : (E1 != 0) = true := by simpa using hE1
   clear HR HE CT SY SGN
   go_wp2_with fail
   obtain ⟨Y, hY, hr, hA⟩ := C1.out.ret
   rw [hY]
   obtain ⟨x0, x1, x2, x3, x4⟩ := cells5 hr
   refine bodyPost_ret (v := .tuple #[dkVal (.slice a n c) D1, .int .i64 E1]) (by unfold dkVal; simp [results, Tryz.results25, go_sem, x0, x1, x2, x3, x4]) rfl ?_
   rw [HF.out]
   exact hA E1
  case pos =>
  subst hE1
  replace HR := zid (HR.out.trans (if_neg (fun h => h rfl)))
  obtain ⟨⟨k0, k1, k2, k3, k4⟩, k5, k6, k7, k8, k9, k10⟩ := cellsS (C1.out.x (p := (w.heap.size, sC (.slice fa fn fc) (.slice ga (m1 + 1) gc) S)) (List.mem_singleton.2 rfl))
  obtain ⟨sb, so, rfl, c0, c1, c2⟩ := sg_at (HG.out.keep C1.out.bw) (Nat.lt_succ_self m1)
  rw [HL.out] at c0 c1 c2
  rw [HZ.out] at c2
  have hmw : IntKind.i64.wrap (((m1 + 1 : Nat) : Int) - 1) = (m1 : Int) := by
   rw [show ((m1 + 1 : Nat) : Int) - 1 = (m1 : Int) from by omega]
   exact IntWalk.i64_in _ ⟨by omega, by omega⟩
  have hmw2 : IntKind.i64.wrap (m1 : Int) = (m1 : Int) := IntWalk.i64_in _ ⟨by omega, by omega⟩
  clear HG HL d0 d1 d2 d3 d4 z0 z1 z2 z3 z4 zf0 zf1 zf2 zf3 zf4
  go_wp2_with fail
  refine (SGN.out _).mono ?_
  rintro e w2 ⟨rfl, b2⟩
  have C2 := zid ((C1.out.keep (al_bel wc (.cells #[.int .i64 g.b, .int .i64 g.n, .int .i64 (z : Int)] 75))).keep b2)
  obtain ⟨q0, q1, q2⟩ := Dsk.cells3 (hkeep (heap_alloc_new wc (.cells #[.int .i64 g.b, .int .i64 g.n, .int .i64 (z : Int)] 75)) b2)
  obtain ⟨d0, d1, d2, d3, d4⟩ := cells5 C2.out.d
  clear k0 k1 k2 k3 k4 k5 k6 k7 k8 k9 k10 c0 c1 c2 hmw hmw2 b2 C1 SGN
  go_wp2_with fail
  refine (CT.out _ _ _ _ C2.out.f).mono ?_
  rintro e w3 ⟨a3, n3, c3, rfl, ks⟩
  obtain ⟨y0, y1, y2, y3, y4⟩ := cells5 (hkeep C2.out.d ks.w)
  obtain ⟨yf0, yf1, yf2, yf3, yf4⟩ := frozen5 (hkeep C2.out.d ks.w)
  have LY := zid (C2.out.lay ks)
  clear ks d0 d1 d2 d3 d4 q0 q1 q2 CT
  unfold dkVal
  go_upto_region 7 with (fail)
  obtain ⟨Z, hZ, CZ, _⟩ := LY.out
  rw [hZ]
  have C3 := zid CZ
  clear hZ CZ LY y0 y1 y2 y3 y4 yf0 yf1 yf2 yf3 yf4 C2
  obtain ⟨d0, d1, d2, d3, d4⟩ := cells5 C3.out.d
  by_cases hE2 : E2 = 0
  case neg =>
   have HF := zid (HR.out.trans (HE.out.trans (if_pos hE2)))
   have he : (E2 != 0) = true := by simpa using hE2
   obtain ⟨z0, z1, z2, z3, z4⟩ := cells5 C3.out.r
   obtain ⟨zf0, zf1, zf2, zf3, zf4⟩ := frozen5 C3.out.r
   clear HR HE SY
   go_wp2_with fail
   obtain ⟨Y, hY, hr, hA⟩ := C3.out.ret
   rw [hY]
   obtain ⟨x0, x1, x2, x3, x4⟩ := cells5 hr
   refine bodyPost_ret (v := .tuple #[dkVal (.slice a3 n3 c3) D2, .int .i64 E2]) (by unfold dkVal; simp [results, Tryz.results25, go_sem, x0, x1, x2, x3, x4]) rfl ?_
   rw [HF.out]
   exact hA E2
  case pos =>
  subst hE2
  have HF := zid (HR.out.trans (HE.out.trans (if_neg (fun h => h rfl))))
  clear HR HE
  go_wp2_with fail
  refine (SY.out _ _ _ _ C3.out.f).mono ?_
  rintro e w5 ⟨b5, n5, c5, rfl, ks⟩
  obtain ⟨z0, z1, z2, z3, z4⟩ := cells5 (hkeep C3.out.r ks.w)
  obtain ⟨zf0, zf1, zf2, zf3, zf4⟩ := frozen5 (hkeep C3.out.r ks.w)
  have LY := zid (C3.out.fin ks)
  clear ks d0 d1 d2 d3 d4 SY
  unfold dkVal
  go_wp2_with fail
  obtain ⟨Y, hY, hr, hA⟩ := LY.out
  rw [hY]
  obtain ⟨x0, x1, x2, x3, x4⟩ := cells5 hr
  refine bodyPost_ret (v := .tuple #[dkVal (.slice b5 n5 c5) D3, .int .i64 E3]) (by unfold dkVal; simp [results, Tryz.results25, go_sem, x0, x1, x2, x3, x4]) rfl ?_
  rw [HF.out]
  exact hA E3
end Ro
namespace Mfs
open Go.RowKit Qm
def HaveOk (l : List Int) : Prop := 1 ≤ l.length ∧ l.length ≤ 64 ∧ ∀ i, i < l.length → AtOk l i
def SnapOk (f z c : Int) : Prop := (f = 0 ∧ z = 0 ∧ c = 0) ∨ (f ≠ 0 ∧ 1 ≤ z ∧ z ≤ 65536)
instance (f z c : Int) : Decidable (SnapOk f z c) := by unfold SnapOk; infer_instance
def lastOf (l : List Int) : Nat → Int
 | 0 => -1
 | k + 1 => l.getD k 0
theorem have_cases (l : List Int) (k : Nat) (h : ∀ j, j < k → AtOk l j) :
 (¬ AtOk l k ∧ (l.getD k 0 ≤ lastOf l k ∨ (lastOf l k < l.getD k 0 ∧ 1099511627776 < l.getD k 0))) ∨ (AtOk l k ∧ lastOf l k < l.getD k 0 ∧ l.getD k 0 ≤ 1099511627776) := by
 have hlast : -1 ≤ lastOf l k ∧ (0 < k → lastOf l k = l.getD (k - 1) 0) ∧ (k = 0 → lastOf l k = -1) := by
  cases k with
  | zero => exact ⟨by show (-1 : Int) ≤ -1; omega, by omega, fun _ => rfl⟩
  | succ k => exact ⟨by have := (h k (by omega)).1; show (-1 : Int) ≤ l.getD k 0; omega, fun _ => rfl, by omega⟩
 obtain ⟨h0, h1, h2⟩ := hlast
 by_cases c1 : l.getD k 0 ≤ lastOf l k
 · refine .inl ⟨fun ⟨a0, _, a2⟩ => ?_, .inl c1⟩
   by_cases hk : k = 0
   · have := h2 hk; omega
   · have := a2 (by omega); have := h1 (by omega); omega
 · by_cases c2 : 1099511627776 < l.getD k 0
   · exact .inl ⟨fun ⟨_, a1, _⟩ => by omega, .inr ⟨by omega, c2⟩⟩
   · exact .inr ⟨⟨by omega, by omega, fun hk => by have := h1 hk; omega⟩, by omega, by omega⟩
theorem mayHave_any (fa : Option Addr) (fn fc : Nat) (l : List Int) (b : Bool) (w : World) (hv : IsL IL w (.slice fa fn fc) l) (hb : b = true ↔ HaveOk l) :
 Calls Tryz.prog 126 #[.slice fa fn fc] w fun e w' => e = .returned (.bool b) ∧ w = w' := by
 have HV := zid hv
 have HFL := zid hv.len.1
 have HN := zid (show ¬ HaveOk l → b = false from fun h => by rw [← Bool.not_eq_true, hb]; exact h)
 have HY := zid (show HaveOk l → b = true from hb.2)
 clear hv hb
 by_cases g3 : (fn : Int) < 1
 · have HF := zid (HN.out fun h => by have := h.1; rw [← HFL.out] at this; omega)
   go_enter Tryz.func126, Tryz.ntmps126
   go_wp2_with fail
   go_ret
   exact ⟨by rw [HF.out]; rfl, rfl⟩
 have e3 : decide ((fn : Int) < 1) = false := by simp; omega
 by_cases g4 : (64 : Int) < (fn : Int)
 · have HF := zid (HN.out fun h => by have := h.2.1; rw [← HFL.out] at this; omega)
   go_enter Tryz.func126, Tryz.ntmps126
   go_wp2_with fail
   go_ret
   exact ⟨by rw [HF.out]; rfl, rfl⟩
 have e4 : decide ((64 : Int) < (fn : Int)) = false := by simp; omega
 go_enter Tryz.func126, Tryz.ntmps126
 go_wp2_with fail
 go_loop [3, 16] (fun z i => ∃ k : Nat, k ≤ fn ∧ i = .int .i64 k ∧ z = .int .i64 (lastOf l k) ∧ ∀ j, j < k → AtOk l j) (fun _ i => fn - (intOf i).toNat)
 case atStart => exact ⟨0, Nat.zero_le _, rfl, rfl, fun j hj => absurd hj (Nat.not_lt_zero j)⟩
 case round =>
  obtain ⟨k, hk, rfl, rfl, hall⟩ := hrel
  have HALL := zid hall
  by_cases hlt : k < fn
  · obtain ⟨g, off, rfl, y0⟩ := il_at HV.out hlt
    have HLS := zid (show lastOf l (k + 1) = l.getD k 0 from rfl)
    rcases have_cases l k hall with ⟨hno, hbad⟩ | ⟨hyes, i1, i2⟩
    · have HF := zid (HN.out fun h => hno (h.2.2 k (by rw [← HFL.out]; exact hlt)))
      clear hno hall
      generalize l.getD k 0 = f at *
      generalize lastOf l k = la at *
      rcases hbad with i1 | ⟨i1, i2⟩
      · go_wp2_with fail
        go_ret
        exact ⟨by rw [HF.out]; rfl, rfl⟩
      · have q1 : decide (f ≤ la) = false := by simpa using i1
        go_wp2_with fail
        go_ret
        exact ⟨by rw [HF.out]; rfl, rfl⟩
    · have GY := zid (all_next hall hyes)
      clear hyes hall
      generalize l.getD k 0 = f at *
      generalize lastOf l k = la at *
      have q1 : decide (f ≤ la) = false := by simpa using i1
      have q2 : decide ((1099511627776 : Int) < f) = false := by simpa using i2
      go_wp2_with fail
      go_round
      case rel => exact ⟨k + 1, by omega, by go_num, by rw [HLS.out], GY.out⟩
      case measure => simp [intOf]; omega
  · have HF := zid (HY.out ⟨by rw [← HFL.out]; omega, by rw [← HFL.out]; omega, fun i hi => HALL.out i (by rw [← HFL.out] at hi; omega)⟩)
    clear hall
    go_wp2_with fail
    go_ret
    exact ⟨by rw [HF.out]; rfl, rfl⟩
theorem maySnap_any (f z c : Int) (w : World) :
 Calls Tryz.prog 127 #[.int .i64 f, .int .i64 z, .int .u32 c] w fun e w' => e = .returned (.bool (decide (SnapOk f z c))) ∧ w = w' := by
 by_cases h0 : f = 0
 · subst h0
   have HV := zid (show decide (SnapOk 0 z c) = (decide (z = 0) && decide (c = 0)) by unfold SnapOk; simp)
   by_cases h1 : z = 0
   · subst h1
     have HW := zid (show (decide (c = 0)) = (c == 0) from by cases h : decide (c = 0) <;> simp_all)
     go_enter Tryz.func127, Tryz.ntmps127
     go_wp2_with fail
     go_ret
     refine ⟨?_, rfl⟩
     rw [HV.out, HW.out]
     rfl
   · have q1 : (z == 0) = false := by simpa using h1
     have HW := zid (show decide (SnapOk 0 z c) = false by rw [HV.out]; simp [h1])
     clear h1
     go_enter Tryz.func127, Tryz.ntmps127
     go_wp2_with fail
     go_ret
     exact ⟨by rw [HW.out]; rfl, rfl⟩
 · have q0 : (f == 0) = false := by simpa using h0
   have HV := zid (show decide (SnapOk f z c) = (decide (1 ≤ z) && decide (z ≤ 65536)) by unfold SnapOk; simp [h0])
   clear h0
   by_cases h1 : 1 ≤ z
   · have HW := zid (show decide (SnapOk f z c) = decide (z ≤ 65536) by rw [HV.out]; simp [h1])
     go_enter Tryz.func127, Tryz.ntmps127
     go_wp2_with fail
     go_ret
     exact ⟨by rw [HW.out]; rfl, rfl⟩
   · have q1 : decide (1 ≤ z) = false := by simpa using h1
     have HW := zid (show decide (SnapOk f z c) = false by rw [HV.out]; simp [h1])
     clear h1
     go_enter Tryz.func127, Tryz.ntmps127
     go_wp2_with fail
     go_ret
     exact ⟨by rw [HW.out]; rfl, rfl⟩
theorem ok_parts (m : Mn) : Ok m ↔ 1 ≤ m.v ∧ m.v ≤ 1099511627776 ∧ HaveOk m.l ∧ SnapOk (m.l.getD 0 0) m.z m.c ∧ 0 ≤ m.c ∧ m.c < 4294967296 :=
 ⟨fun h => ⟨h.v0, h.v1, ⟨h.n0, h.n1, h.at_⟩, h.z, h.c⟩, fun ⟨a, b, ⟨c, d, e⟩, f, g⟩ => ⟨a, b, c, d, e, f, g⟩⟩
theorem right10_any (fa : Option Addr) (fn fc : Nat) (m : Mn) (b : Bool) (w : World) (hv : IsL IL w (.slice fa fn fc) m.l) (hB : MnB m) (hb : b = true ↔ Ok m) :
 Calls Tryz.prog 91 #[mnVal fa fn fc m] w fun e w' => e = .returned (.bool b) ∧ Below w.heap.size w w' := by
 obtain ⟨_, _, c0, c1⟩ := hB
 have HFL := zid hv.len.1
 have HN := zid (show ¬ Ok m → b = false from fun h => by rw [← Bool.not_eq_true, hb]; exact h)
 have HY := zid (show Ok m → b = true from hb.2)
 clear hb
 have HA := zid ((Below.refl w.heap.size w).alloc (Nat.le_refl _) (.cells #[.int .i64 m.v, .slice fa fn fc, .int .i64 m.z, .int .u32 m.c] 65))
 obtain ⟨x0, x1, x2, x3⟩ := cells4 (heap_alloc_new w (.cells #[.int .i64 m.v, .slice fa fn fc, .int .i64 m.z, .int .u32 m.c] 65))
 have HVA := zid (hv.keep HA.out)
 have HOP := zid (ok_parts m)
 obtain ⟨mv, ml, mz, mc⟩ := m
 unfold mnVal
 dsimp only at *
 by_cases g1 : 1 ≤ mv
 case neg =>
  have HF := zid (HN.out fun h => g1 h.v0)
  have e1 : decide (1 ≤ mv) = false := by simpa using g1
  clear hv g1
  go_enter Tryz.func91, Tryz.ntmps91
  go_wp2_with fail
  go_quiet (fail)
  go_wp2_with fail
  go_ret
  exact ⟨by rw [HF.out]; rfl, HA.out.trans ((bel_drewN _).mono HA.out.size)⟩
 by_cases g2 : mv ≤ 1099511627776
 case neg =>
  have HF := zid (HN.out fun h => g2 h.v1)
  have e2 : decide (mv ≤ 1099511627776) = false := by simpa using g2
  clear hv g2
  go_enter Tryz.func91, Tryz.ntmps91
  go_wp2_with fail
  go_quiet (fail)
  go_wp2_with fail
  go_ret
  exact ⟨by rw [HF.out]; rfl, HA.out.trans ((bel_drewN _).mono HA.out.size)⟩
 by_cases g3 : HaveOk ml
 case neg =>
  have HF := zid (HN.out fun h => g3 (HOP.out.1 h).2.2.1)
  have C := zid fun (W : World) (hW : IsL IL W (.slice fa fn fc) ml) => mayHave_any fa fn fc ml false W hW ⟨(fun h => by cases h), fun h => absurd h g3⟩
  clear hv g3
  go_enter Tryz.func91, Tryz.ntmps91
  go_wp2_with fail
  go_quiet ((go_at_call 126; exact Calls.quiet_of_same ((C.out _ (HVA.out.keep (bel_drewN _))).mono fun _ _ ⟨he, hw⟩ => ⟨he, hw.symm⟩)))
  go_wp2_with fail
  go_ret
  exact ⟨by rw [HF.out]; rfl, HA.out.trans ((bel_drewN _).mono HA.out.size)⟩
 have C := zid fun (W : World) (hW : IsL IL W (.slice fa fn fc) ml) => mayHave_any fa fn fc ml true W hW ⟨fun _ => g3, fun _ => rfl⟩
 obtain ⟨g, off, rfl, y0⟩ := il_at HVA.out (show 0 < fn by rw [HFL.out]; exact g3.1)
 rw [Nat.add_zero] at y0
 have D := zid fun W : World => maySnap_any (ml.getD 0 0) mz mc W
 have HD := zid (show decide (SnapOk (ml.getD 0 0) mz mc) = b by
  by_cases h : SnapOk (ml.getD 0 0) mz mc
  · rw [HY.out (HOP.out.2 ⟨g1, g2, g3, h, c0, c1⟩)]; simpa using h
  · rw [HN.out fun hk => h (HOP.out.1 hk).2.2.2.1]; simpa using h)
 rw [HD.out] at D
 have hfn : 0 < fn := by rw [HFL.out]; exact g3.1
 generalize ml.getD 0 0 = f at *
 clear hv g3 HD
 go_enter Tryz.func91, Tryz.ntmps91
 go_wp2_with fail
 go_quiet (first | (go_at_call 126; exact Calls.quiet_of_same ((C.out _ (HVA.out.keep (bel_drewN _))).mono fun _ _ ⟨he, hw⟩ => ⟨he, hw.symm⟩)) | (go_at_call 127; exact Calls.quiet_of_same ((D.out _).mono fun _ _ ⟨he, hw⟩ => ⟨he, hw.symm⟩)))
 go_wp2_with fail
 go_ret
 exact ⟨rfl, HA.out.trans ((bel_drewN _).mono HA.out.size)⟩
theorem put10_no (fa : Option Addr) (fn fc : Nat) (m : Mn) (w : World) (hv : IsL IL w (.slice fa fn fc) m.l) (hB : MnB m) (h : ¬ Ok m) :
 Calls Tryz.prog 142 #[mnVal fa fn fc m] w fun e w' => e = .returned (putVal10 m) ∧ Below w.heap.size w w' := by
 unfold putVal10
 rw [putM_no h]
 dsimp only
 have HA := zid ((Below.refl w.heap.size w).alloc (Nat.le_refl _) (.cells #[.int .i64 m.v, .slice fa fn fc, .int .i64 m.z, .int .u32 m.c] 65))
 have RR := right10_any fa fn fc m false _ (hv.keep HA.out) hB ⟨(fun h => by cases h), fun hk => absurd hk h⟩
 unfold mnVal at *
 replace RR := zid RR
 obtain ⟨mv, ml, mz, mc⟩ := m
 dsimp only at *
 clear hv h
 go_enter Tryz.func142, Tryz.ntmps142
 go_wp2_with fail
 refine RR.out.mono ?_
 rintro e w1 ⟨rfl, b1⟩
 have B1 := zid (HA.out.trans (b1.mono HA.out.size))
 clear b1
 go_wp2_with fail
 go_ret2
 exact ⟨rfl, B1.out⟩
theorem put10_yes (fa : Option Addr) (fn fc : Nat) (m : Mn) (w : World) (hv : IsL IL w (.slice fa fn fc) m.l) (h : Ok m) :
 Calls Tryz.prog 142 #[mnVal fa fn fc m] w fun e w' => e = .returned (putVal10 m) ∧ Below w.heap.size w w' := by
 unfold putVal10
 rw [putM_yes h]
 dsimp only
 have hnn := nums_nonneg h
 have hB : MnB m := ⟨⟨by have := h.v0; omega, by have := h.v1; omega⟩, by rcases h.z with ⟨_, h1, _⟩ | ⟨_, h1, h2⟩ <;> omega, h.c⟩
 have HA := zid ((Below.refl w.heap.size w).alloc (Nat.le_refl _) (.cells #[.int .i64 m.v, .slice fa fn fc, .int .i64 m.z, .int .u32 m.c] 65))
 have G0 := zid (heap_alloc_new w (.cells #[.int .i64 m.v, .slice fa fn fc, .int .i64 m.z, .int .u32 m.c] 65))
 have RR := right10_any fa fn fc m true _ (hv.keep HA.out) hB ⟨fun _ => h, fun _ => rfl⟩
 unfold mnVal at *
 replace RR := zid RR
 have HV := zid hv
 have hfl := hv.len.1
 obtain ⟨C, hC⟩ : ∃ C : Nat, m.c = (C : Int) := ⟨m.c.toNat, by have := h.c; omega⟩
 have hC2 : C < 4294967296 := by have := h.c; omega
 have hv0 := h.v0
 have hv1 := h.v1
 have hn0 : fn ≤ 64 := by rw [hfl]; exact h.n1
 have hz0 : 0 ≤ m.z ∧ m.z ≤ 65536 := by rcases h.z with ⟨_, h1, _⟩ | ⟨_, h1, h2⟩ <;> omega
 have HL := zid fun i (hi : i < fn) => hnn (m.l.getD i 0) (by
  unfold nums
  rw [hfl] at hi
  have e : m.l.getD i 0 = m.l[i] := by simp [List.getD_eq_getElem?_getD, hi]
  rw [e]
  simp)
 have HTK := zid fun i (hi : i < fn) => (show m.l.take (i + 1) = m.l.take i ++ [m.l.getD i 0] from take_snocD (by rw [← hfl]; exact hi))
 have HFR := zid fun (B : ByteArray) (hb : B.data.toList = body m) (W : World) => (show Calls Tryz.prog 158 #[.string B] W fun e w' => e = .returned (.tuple #[.string ⟨(Fr.fr (body m)).toArray⟩, .int .i64 0]) ∧ Below W.heap.size W w' from by
  have hs : B.size = (body m).length := by rw [← hb]; rfl
  have := fput_yes B W (by rw [hs]; exact body_may h)
  rw [hb] at this
  exact this)
 have HBD := zid (show ∀ R, R = puts (m.v :: (fn : Int) :: m.l.take fn) → (⟨R.toArray⟩ ++ ⟨(putI m.z).toArray⟩ ++ ⟨(fourB C).toArray⟩ : ByteArray).data.toList = body m from fun R hR => by
  subst hR
  have e1 : m.l.take fn = m.l := List.take_of_length_le (by rw [hfl]; exact Nat.le_refl _)
  rw [e1, putI_nn hz0.1]
  show puts (m.v :: (fn : Int) :: m.l) ++ Vp.put m.z.toNat ++ fourB C = _
  unfold body nums
  rw [hC, show ((C : Int)).toNat = C from by omega, show (m.v :: (m.l.length : Int) :: (m.l ++ [m.z])) = (m.v :: (m.l.length : Int) :: m.l) ++ [m.z] from rfl, puts_append, puts_one, hfl]
  rfl)
 obtain ⟨mv, ml, mz, mc⟩ := m
 dsimp only at *
 subst hC
 clear hv h hnn hfl
 have hpl : (putI mz).length ≤ 9 := putI_len_le _
 have hp1 : (putI mv).length ≤ 9 := putI_len_le _
 have hp2 : (putI (fn : Int)).length ≤ 9 := putI_len_le _
 have s1 : ¬ 9223372036854775807 < (putI mv).length + (putI (fn : Int)).length := by omega
 have HP0 := zid (show (⟨(putI mv).toArray⟩ ++ ⟨(putI (fn : Int)).toArray⟩ : ByteArray) = ⟨(puts (mv :: (fn : Int) :: ml.take 0)).toArray⟩ by
  rw [ByteArray.mk_append_mk, putI_nn (by omega), putI_nn (by omega), List.take_zero, puts_cons, puts_cons, puts_nil, List.append_nil])
 go_enter Tryz.func142, Tryz.ntmps142
 go_wp2_with fail
 refine RR.out.mono ?_
 rintro e w1 ⟨rfl, b1⟩
 have G1 := zid ((b1.block w.heap.size (Array.getElem?_eq_some_iff.1 G0.out).1).trans G0.out)
 have B1 := HA.out.trans (b1.mono HA.out.size)
 obtain ⟨x0, x1, x2, x3⟩ := cells4 G1.out
 have ST : w1.cell? ⟨w.heap.size, 0, none⟩ = some (.int .i64 mv) ∧ w1.cell? ⟨w.heap.size, 1, none⟩ = some (.slice fa fn fc) ∧ w1.cell? ⟨w.heap.size, 2, none⟩ = some (.int .i64 mz) ∧ w1.cell? ⟨w.heap.size, 3, none⟩ = some (.int .u32 (C : Int)) ∧ Below w.heap.size w w1 := ⟨x0, x1, x2, x3, B1⟩
 clear b1 x0 x1 x2 x3 B1 G0 HA RR
 go_wp2_with fail
 go_region_held3 (fun W => W.cell? ⟨w.heap.size, 0, none⟩ = some (.int .i64 mv) ∧ W.cell? ⟨w.heap.size, 1, none⟩ = some (.slice fa fn fc) ∧ W.cell? ⟨w.heap.size, 2, none⟩ = some (.int .i64 mz) ∧ W.cell? ⟨w.heap.size, 3, none⟩ = some (.int .u32 (C : Int)) ∧ Below w.heap.size w W) (first | assumption | exact keep4 (by assumption) (Below.refl _ _).drew | exact keep4 (by assumption) (by assumption)) (first | (go_at_call 157; refine (put_any _ _ (by omega) (by omega)).mono ?_; rintro e w4 ⟨rfl, b4⟩))
 rename_i qq
 have HS4 := zid qq
 obtain ⟨x0, x1, x2, x3, hbx⟩ := qq
 clear ST hbx
 go_wp2_with fail
 clear x0 x1 x2 x3
 go_loopw [4, 21] (fun s i wr => ∃ (k : Nat) (R : List UInt8), k ≤ fn ∧ i = .int .i64 k ∧ s = .string ⟨R.toArray⟩ ∧ R = puts (mv :: (fn : Int) :: ml.take k) ∧ R.length ≤ 9 * (k + 2) ∧ Hid (wr.cell? ⟨w.heap.size, 0, none⟩ = some (.int .i64 mv) ∧ wr.cell? ⟨w.heap.size, 1, none⟩ = some (.slice fa fn fc) ∧ wr.cell? ⟨w.heap.size, 2, none⟩ = some (.int .i64 mz) ∧ wr.cell? ⟨w.heap.size, 3, none⟩ = some (.int .u32 (C : Int)) ∧ Below w.heap.size w wr))
  (fun _ i _ => fn - (intOf i).toNat)
 case atStart => exact ⟨0, puts (mv :: (fn : Int) :: ml.take 0), Nat.zero_le _, rfl, by rw [HP0.out], rfl, by have := puts_le (mv :: (fn : Int) :: ml.take 0); simp at this ⊢; omega, HS4⟩
 case round =>
  obtain ⟨k, R, hk, rfl, rfl, hR, hRl, HS⟩ := hrel
  have HR := zid hR
  obtain ⟨x0, x1, x2, x3, hbw⟩ := HS.out
  clear hR
  by_cases hlt : k < fn
  · obtain ⟨g, off, rfl, c0⟩ := il_at (HV.out.keep hbw) hlt
    obtain ⟨hf0, hf1⟩ := HL.out k hlt
    have HRS := zid (show puts (mv :: (fn : Int) :: ml.take (k + 1)) = puts (mv :: (fn : Int) :: ml.take k) ++ Vp.put (ml.getD k 0).toNat by
     rw [HTK.out k hlt, show (mv :: (fn : Int) :: (ml.take k ++ [ml.getD k 0])) = (mv :: (fn : Int) :: ml.take k) ++ [ml.getD k 0] from rfl, puts_append, puts_one])
    generalize ml.getD k 0 = f at *
    have P := fun W : World => put_any f W (by omega) (by omega)
    rw [putI_nn hf0] at P
    replace P := zid P
    have hp9 := put_le9 f.toNat
    generalize Vp.put f.toNat = pf at *
    have s2 : ¬ 9223372036854775807 < R.length + pf.length := by omega
    clear hbw
    go_wp2_with fail
    refine (P.out _).mono ?_
    rintro e w5 ⟨rfl, b5⟩
    have HS5 := zid (keep4 HS.out b5)
    clear b5 x0 x1 x2 x3
    go_wp2_with fail
    go_roundw
    case rel => exact ⟨k + 1, R ++ pf, by omega, by go_num, congrArg Value.string (ByteArray.mk_append_mk R pf), by rw [HRS.out, ← HR.out], by rw [List.length_append]; omega, HS5⟩
    case measure => simp [intOf]; omega
  · obtain rfl : k = fn := by omega
    have F := HFR.out _ (HBD.out R HR.out)
    have s2 : ¬ 9223372036854775807 < R.length + (putI mz).length := by omega
    have s3 : ¬ 9223372036854775807 < R.length + (putI mz).length + (fourB C).length := by have : (fourB C).length = 4 := rfl; omega
    replace F := zid F
    have ST2 : wr.cell? ⟨w.heap.size, 0, none⟩ = some (.int .i64 mv) ∧ wr.cell? ⟨w.heap.size, 1, none⟩ = some (.slice fa k fc) ∧ wr.cell? ⟨w.heap.size, 2, none⟩ = some (.int .i64 mz) ∧ wr.cell? ⟨w.heap.size, 3, none⟩ = some (.int .u32 (C : Int)) ∧ Below w.heap.size w wr := HS.out
    clear hbw
    go_wp2_with fail
    clear x0 x1 x2 x3
    go_region_held3 (fun W => W.cell? ⟨w.heap.size, 0, none⟩ = some (.int .i64 mv) ∧ W.cell? ⟨w.heap.size, 1, none⟩ = some (.slice fa k fc) ∧ W.cell? ⟨w.heap.size, 2, none⟩ = some (.int .i64 mz) ∧ W.cell? ⟨w.heap.size, 3, none⟩ = some (.int .u32 (C : Int)) ∧ Below w.heap.size w W) (first | assumption | exact keep4 (by assumption) (Below.refl _ _).drew | exact keep4 (by assumption) (by assumption)) (first | (go_at_call 157; refine (put_any mz _ (by omega) (by omega)).mono ?_; rintro e w6 ⟨rfl, b6⟩) | (go_at_call 122; refine (four_any C _ hC2).mono ?_; rintro e w7 ⟨rfl, b7⟩) | (go_at_call 158; refine (F.out _).mono ?_; rintro e w8 ⟨rfl, b8⟩))
    go_wp2_with fail
    go_ret2
    rename_i qq
    exact ⟨rfl, keep4r qq⟩
theorem put10_any (fa : Option Addr) (fn fc : Nat) (m : Mn) (w : World) (hv : IsL IL w (.slice fa fn fc) m.l) (hB : MnB m) :
 Calls Tryz.prog 142 #[mnVal fa fn fc m] w fun e w' => e = .returned (putVal10 m) ∧ Below w.heap.size w w' := by
 by_cases h : Ok m
 · exact put10_yes fa fn fc m w hv h
 · exact put10_no fa fn fc m w hv hB h
end Mfs
end Go.Proofs.YtooipogbmfkeeaaGreat

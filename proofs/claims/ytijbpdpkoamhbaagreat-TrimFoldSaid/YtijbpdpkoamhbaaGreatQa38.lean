/-
  Parts of what the laws of this seat stand on: TrmSn, TrmUndo, Buf.
-/
import Derived.Deep.AppendSrc
import Derived.Laws.CopyRow
import Derived.Laws.IdiomCopy
import Derived.Test.YtijbpdpkoamhbaaGreatQa1
import Derived.Test.YtijbpdpkoamhbaaGreatQa12
import Derived.Test.YtijbpdpkoamhbaaGreatQa16
import Derived.Test.YtijbpdpkoamhbaaGreatQa19
import Derived.Test.YtijbpdpkoamhbaaGreatQa21
import Derived.Test.YtijbpdpkoamhbaaGreatQa26
import Derived.Test.YtijbpdpkoamhbaaGreatQa32
import Derived.Test.YtijbpdpkoamhbaaGreatQa34
import Derived.Test.YtijbpdpkoamhbaaGreatQa37
set_option maxRecDepth 100000
set_option maxHeartbeats 6400000
namespace Go.Proofs.YtijbpdpkoamhbaaGreat
namespace Trm
open Go.RowKit So Dsk Rts Sto
theorem snap13_any (fa ga : Option Addr) (fn fc gn gc : Nat) (S : St) (w : World) (hf : IsL FL w (.slice fa fn fc) S.d.f) (hg : IsL SL w (.slice ga gn gc) S.g) (hn : S.g ≠ []) (hB : Stb S) :
 Calls Tryz.prog 12 #[stVal (.slice fa fn fc) (.slice ga gn gc) S] w fun e w' => e = .returned (.string ⟨(Lg.snapT S).toArray⟩) ∧ Below w.heap.size w w' := by
 have q0 := heap_alloc_new w (.cells #[.slice fa fn fc, .int .i64 S.d.c, .bool S.d.a, .int .i64 S.d.l, .bool S.d.x, .int .i64 S.v, .slice ga gn gc, .int .i64 S.x, .int .i64 S.s, .int .i64 S.z, .int .u32 S.c] 32)
 have qb := (Below.refl w.heap.size w).alloc (Nat.le_refl _) (.cells #[.slice fa fn fc, .int .i64 S.d.c, .bool S.d.a, .int .i64 S.d.l, .bool S.d.x, .int .i64 S.v, .slice ga gn gc, .int .i64 S.x, .int .i64 S.s, .int .i64 S.z, .int .u32 S.c] 32)
 have hfl := floor_in hn hB
 have FLO := zid fun (W : World) (h : IsL SL W (.slice ga gn gc) S.g) => floor12_any (.slice fa fn fc) (.slice ga gn gc) S W h hn
 have SN := zid fun W : World => snap_any (floor S) W (by omega)
 have RD := fun (W : World) (h : IsL FL W (.slice fa fn fc) S.d.f) => Dsk.read_any (.slice fa fn fc) S.d ⟨(Np.nameL 116 (floor S)).toArray⟩ W h hB.d.r.2.1 (by have := hB.d.n; omega)
 simp only [dat_read] at RD
 generalize (if Dp.get S.d.f ⟨(Np.nameL 116 (floor S)).toArray⟩ = none then (7 : Int) else 0) = er at RD
 replace RD := zid RD
 have F0 := zid hf
 have G0 := zid hg
 have Q0 := zid q0
 have QB := zid qb
 have HE := zid (show floor S = 0 → Lg.snapT S = [] from fun h => if_pos h)
 have HN := zid (show floor S ≠ 0 → Lg.snapT S = (So.dat S.d ⟨(Np.nameL 116 (floor S)).toArray⟩).getD [] from fun h => if_neg h)
 clear hf hg hn hB
 unfold stVal at FLO ⊢
 unfold dkVal at RD
 obtain ⟨⟨k0, k1, k2, k3, k4⟩, k5, k6, k7, k8, k9, k10⟩ := cellsS q0
 clear q0 qb
 generalize floor S = fl at *
 generalize Lg.snapT S = T at *
 go_enter Tryz.func12, Tryz.ntmps12
 go_wp2_with fail
 generalize World.alloc w _ = w0 at k0 k1 k2 k3 k4 k5 k6 k7 k8 k9 k10 Q0 QB ⊢
 refine (FLO.out _ (G0.out.keep QB.out)).mono ?_
 rintro e w1 ⟨rfl, b1⟩
 obtain ⟨⟨x0, x1, x2, x3, x4⟩, x5, x6, x7, x8, x9, x10⟩ := cellsS (hkeep Q0.out b1)
 have PB := zid (QB.out.trans (b1.mono QB.out.size))
 have P0 := zid (hkeep Q0.out b1)
 clear b1 k0 k1 k2 k3 k4 k5 k6 k7 k8 k9 k10
 by_cases h0 : fl = 0
 · have h0' : (fl == 0) = true := by simpa using h0
   have HR := zid (HE.out h0)
   clear h0
   go_wp2_with fail
   go_ret
   exact ⟨by rw [HR.out]; rfl, PB.out⟩
 · have h0' : (fl == 0) = false := by simpa using h0
   have HR := zid (HN.out h0)
   have hb0 : w.heap.size < w1.heap.size := (Array.getElem?_eq_some_iff.1 P0.out).1
   clear h0
   go_upto_region 4 with (fail)
   go_region_held3 (fun W => (∀ b o, b < w1.heap.size → W.cell? ⟨b, o, none⟩ = w1.cell? ⟨b, o, none⟩) ∧ Below w1.heap.size w1 W) (first | with_reducible assumption | with_reducible exact KW.dr _ | with_reducible exact KW.keep (by assumption) (Below.refl _ _).drew | with_reducible exact KW.keep (by assumption) (by assumption)) (first | (go_at_call 48; refine (SN.out _).mono ?_; rintro e w5 ⟨rfl, q5⟩; have s5 := KW.keep (by assumption) q5) | (go_at_call 47; refine (RD.out _ (F0.out.keep (PB.out.trans ((KW.bel (by assumption)).mono PB.out.size)))).mono ?_; rintro e w5 ⟨rfl, q5⟩; have s5 := KW.keep (by assumption) q5))
   all_goals
    rename_i hh
    have LB := zid (PB.out.trans ((KW.bel hh).mono PB.out.size))
    clear hh
    go_wp2_with fail
    go_ret
    exact ⟨by rw [HR.out]; rfl, LB.out⟩
theorem prs_set {W : World} {v : Value} {l : List Fp.Pr} {t : Nat} {a1 a2 : Option Addr} {n1 c1 n2 c2 : Nat} {T : TypeId} {z0 z1 z2 z3 z4 z5 z6 : Int} {y0 y1 : Bool} (h : IsPrs W v l)
 (hb : W.heap[t]? = some (.cells #[.slice a1 n1 c1, .int .i64 z0, .bool y0, .int .i64 z1, .bool y1, .int .i64 z2, .slice a2 n2 c2, .int .i64 z3, .int .i64 z4, .int .i64 z5, .int .u32 z6] T (0, 0))) (i : Nat) (y : Value) : IsPrs (W.setCell ⟨t, i, none⟩ y) v l := by
 obtain ⟨a, cap, rfl, h1, h2, h3⟩ := h
 refine ⟨a, cap, rfl, h1, h2, ?_⟩
 rcases h3 with h3 | ⟨b, off, rfl, h4⟩
 · exact .inl h3
 rcases Nat.eq_zero_or_pos l.length with h0 | h0
 · exact .inl (List.length_eq_zero_iff.1 h0)
 refine .inr ⟨b, off, rfl, fun k hk => ?_⟩
 have hne : b ≠ t := by
  rintro rfl
  have c0 := (h4 0 h0).1
  rw [Nat.zero_mul, Nat.add_zero, Lib.cell_of_heap hb] at c0
  rcases off with _ | _ | _ | _ | _ | _ | _ | _ | _ | _ | _ | off <;> simp at c0
 have hs : ∀ o, (W.setCell ⟨t, i, none⟩ y).cell? ⟨b, o, none⟩ = W.cell? ⟨b, o, none⟩ := fun o => World.cell?_setCell_other _ _ _ _ (fun e => hne (by injection e with e; exact e.symm))
 rw [hs, hs]
 exact h4 k hk
theorem from_log {q F : Int} {S : St} {s0 : List Fp.Pr} {rs : List Rp.Rec} (h : Lg.Log q S F s0 rs) {k : Nat} (hk : k ≤ rs.length) (hn : rs.length ≤ 100000) (hq : (Rp.rowB rs).length ≤ 9223372036854775807) : fromT { S with s := S.x } F 9223372036854775807 (k : Int) = rs.take k := by
 have hf := h.f0
 have hx := h.x
 have I := (inw_of h).all
 rcases Nat.eq_zero_or_pos k with rfl | hp
 · rw [fromT_lo (.inr (.inr (by decide))), List.take_zero]
 · have e := I.fit (o := F.toNat) (Nat.le_refl _) 9223372036854775807 (k : Int) (by decide) (by show (F.toNat : Int) < S.x; omega)
   rw [show ((F.toNat : Nat) : Int) = F by omega] at e
   rw [e, List.drop_left' (pad_len _)]
   show (fit _ rs).take (min (k : Int) (S.x - F)).toNat = _
   rw [fit_all _ _ (by show _ ≤ (9223372036854775807 : Int).toNat; exact hq), show (min (k : Int) (S.x - F)).toNat = k by omega]
theorem state13_any {q F : Int} {s0 : List Fp.Pr} {rs : List Rp.Rec} (fa ga : Option Addr) (fn fc gn gc : Nat) (S : St) (k : Nat) (w : World) (hf : IsL FL w (.slice fa fn fc) S.d.f) (hg : IsL SL w (.slice ga gn gc) S.g) (hB : Stb S) (hL : Lg.Log q S F s0 rs) (hk : k ≤ rs.length) (hx : S.x ≤ 1000) :
 Calls Tryz.prog 16 #[stVal (.slice fa fn fc) (.slice ga gn gc) S, .int .i64 (F + (k : Int))] w (SttOut w (Lg.stateT S (F + (k : Int)))) := by
 have hn : S.g ≠ [] := fun e => by have := hL.last_mem; rw [e] at this; cases this
 have hsz := snapT_small hB
 have hf0 := hL.f0
 have hxx := hL.x
 have hrl : rs.length ≤ 1000 := by omega
 have I := (inw_of hL).all
 have hrow : (Rp.rowB rs).length ≤ 9223372036854775807 := by
  have := row_small rs hL.ok
  omega
 have HF := from_log hL hk (by omega) hrow
 have q0 := heap_alloc_new w (.cells #[.slice fa fn fc, .int .i64 S.d.c, .bool S.d.a, .int .i64 S.d.l, .bool S.d.x, .int .i64 S.v, .slice ga gn gc, .int .i64 S.x, .int .i64 S.s, .int .i64 S.z, .int .u32 S.c] 32)
 have qb := (Below.refl w.heap.size w).alloc (Nat.le_refl _) (.cells #[.slice fa fn fc, .int .i64 S.d.c, .bool S.d.a, .int .i64 S.d.l, .bool S.d.x, .int .i64 S.v, .slice ga gn gc, .int .i64 S.x, .int .i64 S.s, .int .i64 S.z, .int .u32 S.c] 32)
 have hB' : Stb { S with s := S.x } := ⟨hB.d, hB.v, hB.n, hB.g, hB.x, hB.x, hB.z, hB.c⟩
 have SNP := zid fun (W : World) (h1 : IsL FL W (.slice fa fn fc) S.d.f) (h2 : IsL SL W (.slice ga gn gc) S.g) => snap13_any fa ga fn fc gn gc S W h1 h2 hn hB
 have FLO := fun (W : World) (h : IsL SL W (.slice ga gn gc) S.g) => floor12_any (.slice fa fn fc) (.slice ga gn gc) { S with s := S.x } W h hn
 have PRS := zid (show ∀ W : World, Calls Tryz.prog 50 #[.string ⟨(Lg.snapT S).toArray⟩] W (ParseOut W (Lg.snapT S)) from fun W => fparse_any ⟨(Lg.snapT S).toArray⟩ W (by show (Lg.snapT S).toArray.size ≤ _; simp; omega))
 have FR := fun (W : World) (h1 : IsL FL W (.slice fa fn fc) S.d.f) (h2 : IsL SL W (.slice ga gn gc) S.g) => from13_any fa ga fn fc gn gc { S with s := S.x } F.toNat (pad F.toNat ++ rs) F 9223372036854775807 (k : Int) W h1 h2 hB' I (by rw [List.length_append, pad_len]; omega) ⟨by decide, by decide⟩ (by omega)
 rw [HF] at FR
 have hst : floor { S with s := S.x } = F := hL.fl
 rw [hst] at FLO
 have hs := hL.snap
 have FO := zid fun (v u : Value) (W : World) (h1 : IsPrs W v s0) (h2 : IsRecs W u (rs.take k)) => fold_any v s0 u (rs.take k) W h1 hs.2.2.2 h2
 have HEN := zid (hL.state hk)
 have HP := zid (show (Fp.parse (Lg.snapT S)).getD [] = s0 from hs.1)
 have HST := zid (show Fp.St (Fp.fold s0 ((rs.take k).map fun r => r.d)) from Fp.St.fold hs.2.2 fun s hs' => by
  obtain ⟨r, hr, rfl⟩ := List.mem_map.1 hs'
  have := hL.ok r (List.mem_of_mem_take hr)
  unfold Rp.Ok at this
  omega)
 have hwk : IntKind.i64.wrap (F + (k : Int) - F) = (k : Int) := by
  rw [show F + (k : Int) - F = (k : Int) by omega]
  exact IntWalk.i64_in _ ⟨by omega, by omega⟩
 have F0 := zid hf
 have G0 := zid hg
 have Q0 := zid q0
 have QB := zid qb
 obtain ⟨⟨k0, k1, k2, k3, k4⟩, k5, k6, k7, k8, k9, k10⟩ := cellsS q0
 have hx8 := hB.x
 clear hf hg hn hB hB' hsz hrow HF I hL hs hst hk hxx hrl hx q0 qb
 unfold stVal at SNP FLO FR ⊢
 dsimp only at FLO FR
 replace FLO := zid FLO
 replace FR := zid FR
 go_enter Tryz.func16, Tryz.ntmps16
 go_wp2_with fail
 generalize World.alloc w _ = w0 at k0 k1 k2 k3 k4 k5 k6 k7 k8 k9 k10 Q0 QB ⊢
 refine (SNP.out _ (F0.out.keep QB.out) (G0.out.keep QB.out)).mono ?_
 rintro e w1 ⟨rfl, b1⟩
 have PB := zid (QB.out.trans (b1.mono QB.out.size))
 have P0 := zid (hkeep Q0.out b1)
 clear b1 k0 k1 k2 k3 k4 k5 k6 k7 k8 k9 k10 Q0 QB SNP
 go_wp2_with fail
 refine (PRS.out _).mono ?_
 rintro e w2 ⟨v, rfl, hv, b2⟩
 have hv' : IsPrs w2 v s0 := by have h := hv; rw [HP.out] at h; exact h
 have HV := zid hv'
 have PB2 := zid (PB.out.trans (b2.mono PB.out.size))
 have P2 := hkeep P0.out b2
 have HP2 := zid P2
 obtain ⟨va, vn, vc, rfl⟩ := prs_slice hv'
 obtain ⟨⟨k0, k1, k2, k3, k4⟩, k5, k6, k7, k8, k9, k10⟩ := cellsS P2
 have kf := frozenS P2
 clear hv hv' b2 P2 PB P0 PRS
 go_upto_region 3 with (fail)
 have P3 : (w2.setCell ⟨w.heap.size, 8, none⟩ (.int .i64 S.x)).heap[w.heap.size]? = some (.cells #[.slice fa fn fc, .int .i64 S.d.c, .bool S.d.a, .int .i64 S.d.l, .bool S.d.x, .int .i64 S.v, .slice ga gn gc, .int .i64 S.x, .int .i64 S.x, .int .i64 S.z, .int .u32 S.c] 32 (0, 0)) := heap_setCell_same _ _ 8 _ _ (.int .i64 S.x) HP2.out
 have G3 := grown_set12 w2 w.heap.size 8 (.int .i64 S.x)
 have HV3 := zid (prs_set HV.out HP2.out 8 (.int .i64 S.x))
 obtain ⟨Z, hZ⟩ : ∃ Z, w2.setCell ⟨w.heap.size, 8, none⟩ (.int .i64 S.x) = Z := ⟨_, rfl⟩
 rw [hZ] at P3 G3 HV3 ⊢
 have PB3 := zid (PB2.out.grown G3 PB2.out.size (fun r hr => by injection hr with hr; omega))
 have HP3 := zid P3
 clear k0 k1 k2 k3 k4 k5 k6 k7 k8 k9 k10 kf PB2 HP2 HV G3 hZ
 obtain ⟨⟨k0, k1, k2, k3, k4⟩, k5, k6, k7, k8, k9, k10⟩ := cellsS P3
 clear P3
 go_wp2_with fail
 refine (FLO.out _ (G0.out.keep PB3.out)).mono ?_
 rintro e w4 ⟨rfl, b4⟩
 have PB4 := zid (PB3.out.trans (b4.mono PB3.out.size))
 have HV4 := zid (HV3.out.below b4 (Nat.le_refl _))
 have P4 := hkeep HP3.out b4
 clear k0 k1 k2 k3 k4 k5 k6 k7 k8 k9 k10 b4 HP3 HV3 PB3 FLO
 obtain ⟨⟨k0, k1, k2, k3, k4⟩, k5, k6, k7, k8, k9, k10⟩ := cellsS P4
 clear P4
 go_wp2_with fail
 refine (FR.out _ (F0.out.keep PB4.out) (G0.out.keep PB4.out)).mono ?_
 rintro e w5 ⟨u, rfl, hu, b5⟩
 have PB5 := zid (PB4.out.trans (b5.mono PB4.out.size))
 have FO5 := FO.out (.slice va vn vc) u w5 (HV4.out.below b5 (Nat.le_refl _)) hu
 replace FO5 := zid FO5
 obtain ⟨ua, un, ucap, rfl⟩ : ∃ a n c, u = .slice a n c := by obtain ⟨a, c, h, _⟩ := hu; exact ⟨a, _, c, h⟩
 clear k0 k1 k2 k3 k4 k5 k6 k7 k8 k9 k10 b5 HV4 PB4 FR FO hu
 go_wp2_with fail
 refine FO5.out.mono ?_
 rintro e w6 ⟨v6, rfl, ho, b6⟩
 have HFIN := zid (SttOut.mk (own_prs ho HST.out) (PB5.out.trans (b6.mono PB5.out.size)))
 clear ho b6 FO5
 go_wp2_with fail
 go_ret
 rw [HEN.out]
 exact HFIN.out
structure Us (w : World) (b : Nat) (fv0 fv : Value) (D : Dp.Dk) (W : World) : Prop where
 d : W.heap[b]? = some (.cells #[fv, .int .i64 D.c, .bool D.a, .int .i64 D.l, .bool D.x] 28 (0, 0))
 r : W.heap[b + 1]? = some (.cells #[.slice none 0 0, .int .i64 0, .bool false, .int .i64 0, .bool false] 28 (0, 0))
 f : IsL FL W fv D.f
 s : Sep fv b ∧ Sep fv (b + 1)
 k : ∀ t, t < b → Sep fv0 t → Sep fv t
 w : Below b w W
theorem Us.keep {w W W' : World} {b : Nat} {fv0 fv : Value} {D : Dp.Dk} (h : Us w b fv0 fv D W) (k : Below W.heap.size W W') : Us w b fv0 fv D W' :=
 ⟨hkeep h.d k, hkeep h.r k, h.f.keep k, h.s, h.k, h.w.trans (k.mono (by have := (Array.getElem?_eq_some_iff.1 h.d).1; omega))⟩
theorem Us.lay {w W W' : World} {b : Nat} {fv0 fv fv' : Value} {D D' : Dp.Dk} (h : Us w b fv0 fv D W) (k : DkS W fv D' fv' W') :
 ∃ Z, ((((W'.setCell ⟨b, 0, none⟩ fv').setCell ⟨b, 1, none⟩ (.int .i64 D'.c)).setCell ⟨b, 2, none⟩ (.bool D'.a)).setCell ⟨b, 3, none⟩ (.int .i64 D'.l)).setCell ⟨b, 4, none⟩ (.bool D'.x) = Z ∧ Us w b fv0 fv' D' Z := by
 have h0 : b < W.heap.size := (Array.getElem?_eq_some_iff.1 h.d).1
 have h1 : b + 1 < W.heap.size := (Array.getElem?_eq_some_iff.1 h.r).1
 have s0 := k.s b h0 h.s.1
 have ho : ∀ j, j ≠ b → ∀ o, W'.heap[j]? = some o → (set5 W' b fv' (.int .i64 D'.c) (.bool D'.a) (.int .i64 D'.l) (.bool D'.x)).heap[j]? = some o := fun j hj o e => by
  unfold set5
  rw [Below.heap_setCell _ _ _ j (fun e => hj e), Below.heap_setCell _ _ _ j (fun e => hj e), Below.heap_setCell _ _ _ j (fun e => hj e), Below.heap_setCell _ _ _ j (fun e => hj e), Below.heap_setCell _ _ _ j (fun e => hj e)]
  exact e
 exact ⟨_, rfl, heap_set5 (hkeep h.d k.w) _ _ _ _ _, ho _ (by omega) _ (hkeep h.r k.w), IsL.set5 k.f s0 _ _ _ _ _,
  ⟨s0, k.s _ h1 h.s.2⟩, fun t ht hs => k.s t (by omega) (h.k t ht hs), bel_set5 (h.w.trans (k.w.mono (Nat.le_of_lt h0))) (Nat.le_refl _) _ _ _ _ _⟩
theorem Us.end {w W : World} {fv0 fv : Value} {D : Dp.Dk} (h : Us w w.heap.size fv0 fv D W) :
 ∃ Z, ((((W.setCell ⟨w.heap.size + 1, 0, none⟩ fv).setCell ⟨w.heap.size + 1, 1, none⟩ (.int .i64 D.c)).setCell ⟨w.heap.size + 1, 2, none⟩ (.bool D.a)).setCell ⟨w.heap.size + 1, 3, none⟩ (.int .i64 D.l)).setCell ⟨w.heap.size + 1, 4, none⟩ (.bool D.x) = Z ∧ Z.heap[w.heap.size + 1]? = some (.cells #[fv, .int .i64 D.c, .bool D.a, .int .i64 D.l, .bool D.x] 28 (0, 0)) ∧ DkS w fv0 D fv Z :=
 ⟨_, rfl, heap_set5 h.r _ _ _ _ _, IsL.set5 h.f h.s.2 _ _ _ _ _, h.k, bel_set5 h.w (by omega) _ _ _ _ _⟩
theorem rundo13_any (fa : Option Addr) (fn fc : Nat) (D : Dp.Dk) (e : Int) (n : ByteArray) (w : World) (k : Nat) (hv : IsL FL w (.slice fa fn fc) D.f) (hS : Bd D k) (hk : k ≤ 100000) :
 Calls Tryz.prog 39 #[dkVal (.slice fa fn fc) D, .int .i64 e, .string n] w (DkAns w (.slice fa fn fc) (Lg.undo (D, e) n)) := by
 obtain ⟨g0, g1, gb, gs⟩ := boxes2 w #[.slice fa fn fc, .int .i64 D.c, .bool D.a, .int .i64 D.l, .bool D.x] #[.slice none 0 0, .int .i64 0, .bool false, .int .i64 0, .bool false] 28 28
 have BS0 := zid (show Us w w.heap.size (.slice fa fn fc) (.slice fa fn fc) D _ from ⟨g0, g1, hv.keep gb, ⟨IsL.sep_new hv (Nat.le_refl _), IsL.sep_new hv (by omega)⟩, fun _ _ h => h, gb⟩)
 have RD := zid fun (W : World) (h : IsL FL W (.slice fa fn fc) D.f) => rdelete_s hS (by omega) n h
 have HU := zid (show Lg.undo (D, e) n = if e = 9 then ((Dp.delete D n).1, if (Dp.delete D n).2 = 0 then 9 else (Dp.delete D n).2) else (D, e) from rfl)
 obtain ⟨⟨X, E⟩, hX⟩ : ∃ R, Dp.delete D n = R := ⟨_, rfl⟩
 rw [hX] at RD HU
 dsimp only at HU
 obtain ⟨p0, p1, p2, p3, p4⟩ := cells5 g0
 obtain ⟨q0, q1, q2, q3, q4⟩ := cells5 g1
 obtain ⟨qf0, qf1, qf2, qf3, qf4⟩ := frozen5 g1
 have HV := zid hv
 clear g0 g1 gb gs hv hS hX
 unfold dkVal at RD ⊢
 by_cases h9 : e = 9
 case neg =>
  have e9 : (e != 9) = true := by simpa using h9
  have HR : Lg.undo (D, e) n = (D, e) := by rw [HU.out, if_neg h9]
  rw [HR]
  clear HU HR RD h9
  go_enter Tryz.func39, Tryz.ntmps39
  go_wp2_with fail
  obtain ⟨g0, g1, gb, gs⟩ := boxes2 w #[.slice fa fn fc, .int .i64 D.c, .bool D.a, .int .i64 D.l, .bool D.x] #[.slice fa fn fc, .int .i64 D.c, .bool D.a, .int .i64 D.l, .bool D.x] 28 28
  obtain ⟨z0, z1, z2, z3, z4⟩ := cells5 g1
  refine bodyPost_ret (v := .tuple #[.agg #[.slice fa fn fc, .int .i64 D.c, .bool D.a, .int .i64 D.l, .bool D.x], .int .i64 e]) (by simp [results, Tryz.results39, go_sem, z0, z1, z2, z3, z4]) rfl ?_
  exact ⟨_, _, _, rfl, HV.out.keep gb, fun _ _ h => h, gb⟩
 subst h9
 have e9 : ((9 : Int) != 9) = false := rfl
 obtain ⟨E2, hE2⟩ : ∃ E2, (if E = 0 then 9 else E) = E2 := ⟨_, rfl⟩
 have HR : Lg.undo (D, 9) n = (X, E2) := by rw [HU.out, if_pos rfl, hE2]
 have HE2 := zid hE2
 rw [HR]
 clear hE2
 clear HU HR
 go_enter Tryz.func39, Tryz.ntmps39
 go_wp2_with fail
 generalize World.alloc (World.alloc w _) _ = w0 at BS0 p0 p1 p2 p3 p4 q0 q1 q2 q3 q4 qf0 qf1 qf2 qf3 qf4 ⊢
 refine (RD.out w0 BS0.out.f).mono ?_
 rintro e w1 ⟨a1, n1, c1, rfl, k1⟩
 have B1 := BS0.out.keep k1.w
 have L1 := zid (BS0.out.lay k1)
 clear p0 p1 p2 p3 p4 q0 q1 q2 q3 q4 qf0 qf1 qf2 qf3 qf4
 obtain ⟨p0, p1, p2, p3, p4⟩ := cells5 B1.d
 obtain ⟨pf0, pf1, pf2, pf3, pf4⟩ := frozen5 B1.d
 clear B1 k1
 unfold dkVal
 dsimp only at L1 ⊢
 go_upto_region 4 with (fail)
 obtain ⟨Z, hZ, Z1⟩ := L1.out
 rw [hZ]
 have BZ := zid Z1
 obtain ⟨q0, q1, q2, q3, q4⟩ := cells5 Z1.d
 obtain ⟨r0, r1, r2, r3, r4⟩ := cells5 Z1.r
 obtain ⟨rf0, rf1, rf2, rf3, rf4⟩ := frozen5 Z1.r
 clear hZ L1 Z1 p0 p1 p2 p3 p4 pf0 pf1 pf2 pf3 pf4
 by_cases hE : E = 0
 · subst hE
   obtain rfl : E2 = 9 := by rw [← HE2.out, if_pos rfl]
   clear HE2
   go_wp2_with fail
   obtain ⟨Y, hY, Y1, Y2⟩ := BZ.out.end
   rw [hY]
   obtain ⟨z0, z1, z2, z3, z4⟩ := cells5 Y1
   refine bodyPost_ret (v := .tuple #[.agg #[.slice a1 n1 c1, .int .i64 X.c, .bool X.a, .int .i64 X.l, .bool X.x], .int .i64 9]) (by simp [results, Tryz.results39, go_sem, z0, z1, z2, z3, z4]) rfl ?_
   exact ⟨_, _, _, rfl, Y2⟩
 · have hE' : (E != 0) = true := by simpa using hE
   obtain rfl : E2 = E := by rw [← HE2.out, if_neg hE]
   clear hE HE2
   go_wp2_with fail
   obtain ⟨Y, hY, Y1, Y2⟩ := BZ.out.end
   rw [hY]
   obtain ⟨z0, z1, z2, z3, z4⟩ := cells5 Y1
   refine bodyPost_ret (v := .tuple #[.agg #[.slice a1 n1 c1, .int .i64 X.c, .bool X.a, .int .i64 X.l, .bool X.x], .int .i64 E2]) (by simp [results, Tryz.results39, go_sem, z0, z1, z2, z3, z4]) rfl ?_
   exact ⟨_, _, _, rfl, Y2⟩
end Trm
section
open Go.RowKit
def Buf (w : World) (base : Nat) (v : Value) (l : List UInt8) : Prop :=
 ∃ g cap cur fz, v = .slice (some ⟨g, 0, none⟩) l.length cap ∧ base ≤ g ∧ w.heap[g]? = some (.cells cur 5 fz) ∧ (cur.size ≤ fz.1 ∨ fz.2 = 0) ∧ l.length ≤ cap ∧ cap ≤ maxLen ∧ cur.size = cap ∧ cur.toList.take l.length = byteCells l
theorem Buf.below {w w' : World} {base : Nat} {v : Value} {l : List UInt8} (h : Buf w base v l) (b : Below w.heap.size w w') : Buf w' base v l := by
 obtain ⟨g, cap, cur, fz, hv, hb, hg, rest⟩ := h
 exact ⟨g, cap, cur, fz, hv, hb, by rw [b.block g (Array.getElem?_eq_some_iff.1 hg).1]; exact hg, rest⟩
theorem Buf.alloc {w : World} {base : Nat} {v : Value} {l : List UInt8} (h : Buf w base v l) (o : Obj) : Buf (w.alloc o) base v l := h.below ((Below.refl _ _).alloc (Nat.le_refl _) o)
theorem Buf.mono {w : World} {base base' : Nat} {v : Value} {l : List UInt8} (h : Buf w base v l) (hb : base' ≤ base) : Buf w base' v l := by
 obtain ⟨g, cap, cur, fz, hv, hg, rest⟩ := h
 exact ⟨g, cap, cur, fz, hv, Nat.le_trans hb hg, rest⟩
theorem Buf.lt {w : World} {base : Nat} {v : Value} {l : List UInt8} (h : Buf w base v l) : ∀ k, v.ownBlock = some k → base ≤ k ∧ k < w.heap.size := by
 obtain ⟨g, cap, cur, fz, rfl, hb, hg, _⟩ := h
 intro k hk
 simp [Value.ownBlock] at hk
 subst hk
 exact ⟨hb, (Array.getElem?_eq_some_iff.1 hg).1⟩
theorem buf_of (w : World) (s : ByteArray) (hs : s.size ≤ maxLen) : ∃ v W, (convert 9 102 (.string s)).run Tryz.prog w = .ok v W ∧ Buf W w.heap.size v s.data.toList ∧ Below w.heap.size w W := by
 refine ⟨_, _, run_bytes_of_string w 9 102 5 s Tryz.underlying9 Tryz.underlying102 Tryz.underlying5, ?_, (Below.drew (Below.refl _ _)).alloc (Nat.le_refl _) _⟩
 have hlen : s.data.toList.length = s.size := rfl
 have hsz : (bytesRow s (grownCap w s.size 0 5)).size = grownCap w s.size 0 5 := by
  have := grownCap_ge w s.size 0 5
  have e : s.data.size = s.size := rfl
  unfold bytesRow
  rw [Array.size_append, Array.size_map, Array.size_replicate, e]
  omega
 refine ⟨w.heap.size, _, _, _, rfl, Nat.le_refl _, heap_alloc_new w.drew _, .inl (Nat.le_refl _), ?_, grownCap_le_maxLen w s.size 0 _ hs, hsz, ?_⟩
 · rw [hlen]; exact grownCap_ge w s.size 0 _
 · unfold bytesRow byteCells
   rw [Array.toList_append, Array.toList_map, List.take_left' (by simp)]
theorem setCells_rowF (g : Nat) (t : TypeId) (fr : Nat × Nat) : ∀ (vs : List Value) (o : Nat) (cur : Array Value) (w : World), w.heap[g]? = some (.cells cur t fr) → o + vs.length ≤ cur.size → w.setCells g o vs = w.setRow g (cur.toList.take o ++ vs ++ cur.toList.drop (o + vs.length)).toArray
 | [], o, cur, w, hg, _ => by
  simp only [World.setCells, List.append_nil, List.length_nil, Nat.add_zero, List.take_append_drop, Array.toArray_toList]
  rw [setRow_self w g cur t fr hg]
 | v :: rest, o, cur, w, hg, hl => by
  have hi : o < cur.size := by simp at hl; omega
  have ih := setCells_rowF g t fr rest (o + 1) (cur.setIfInBounds o v) (w.setRow g (cur.setIfInBounds o v)) (setRow_heap w g cur _ t _ hg) (by simp at hl ⊢; omega)
  rw [World.setCells, setCell_eq_setRow w g o cur t fr v hg, ih, setRow_setRow]
  congr 1
  congr 1
  have e := list_seg_step cur.toList o v rest (by simp at hl ⊢; omega)
  simpa [Array.toList_setIfInBounds, Nat.add_assoc] using e
theorem info_u8b : (Tryz.prog.info? 5).map (fun i => (i.zero, i.size, i.bytes)) = some (some (.int .u8 0), 1, 1) := by kernel_rfl
theorem run_append_buf (w : World) (base : Nat) (v xv : Value) (l bs : List UInt8) (tx ty : TypeId) (h : Buf w base v l) (hsrc : Src Tryz.prog 1 tx xv bs.length (byteCells bs) w) (hlen : l.length + bs.length ≤ 140737488355328) (hbase : base ≤ w.heap.size) :
 ∃ v' w', (Builtin.append_ #[102, tx] ty #[v, xv]).run Tryz.prog w = .ok v' w' ∧ Buf w' base v' (l ++ bs) ∧ w.grownBy w' v.ownBlock ∧ (v'.ownBlock = v.ownBlock ∨ v'.ownBlock = some w.heap.size) := by
 obtain ⟨i0, hi, hz0, hz1, hz2⟩ := info_parts info_u8b
 obtain ⟨g, cap, cur, fz, rfl, hb, hg, hfz, hlc, hcm, hcs, ht⟩ := h
 have hbl : (byteCells bs).length = bs.length := byteCells_len bs
 by_cases hroom : l.length + bs.length ≤ cap
 · have hr := run_append_room_src (P := Tryz.prog) w 102 tx ty 5 i0 Tryz.underlying102 hi g 0 l.length cap xv bs.length (byteCells bs) (by rw [hz1]; exact hsrc) hroom
    (fun j hj => by
     rw [hz1, Nat.zero_add, Nat.mul_one]
     rw [cell_of_row w g _ cur _ fz hg, Array.getElem?_eq_getElem (by omega)]; rfl)
    (fun j hj => by
     rw [hz1, Nat.zero_add, Nat.mul_one]
     unfold World.frozen?
     simp only [hg]
     rcases hfz with h1 | h1
     · rw [decide_eq_false (by omega)]; rfl
     · rw [h1]; simp)
   rw [hz1, Nat.zero_add, Nat.mul_one] at hr
   refine ⟨_, _, hr, ?_, ?_, .inl rfl⟩
   · rw [setCells_rowF g _ fz _ _ cur w hg (by omega)]
     refine ⟨g, cap, _, fz, by rw [List.length_append], hb, setRow_heap w g cur _ _ fz hg, ?_, by rw [List.length_append]; exact hroom, hcm, ?_, ?_⟩
     · have e : ((cur.toList.take l.length ++ byteCells bs ++ cur.toList.drop (l.length + (byteCells bs).length)).toArray).size = cur.size := by
        simp only [List.size_toArray, List.length_append, List.length_take, List.length_drop, Array.length_toList]; omega
       rw [e]; exact hfz
     · simp only [List.size_toArray, List.length_append, List.length_take, List.length_drop, Array.length_toList]; omega
     · show (cur.toList.take l.length ++ byteCells bs ++ cur.toList.drop (l.length + (byteCells bs).length)).take (l ++ bs).length = _
       rw [List.take_left' (by simp only [List.length_append, List.length_take, Array.length_toList, hbl]; omega), ht]
       unfold byteCells
       rw [List.map_append]
   · rw [setCells_rowF g _ fz _ _ cur w hg (by omega)]
     exact ⟨rfl, rfl, rfl, by simp, fun k _ hk => setRow_other w g k _ (fun e => hk (by rw [e]; rfl))⟩
 · have hold : (Builtin.firstCells i0.size l.length (.slice (some ⟨g, 0, none⟩) l.length cap)).run Tryz.prog w.drew = .ok (byteCells l).toArray w.drew := by
    rw [hz1]
    refine run_firstCells_some w.drew 1 l.length ⟨g, 0, none⟩ l.length cap (byteCells l) (by rw [byteCells_len, Nat.mul_one]) (fun j u hj => ?_)
    have e : (⟨g, 0, none⟩ : Addr).add j = ⟨g, j, none⟩ := by unfold Addr.add; split <;> simp_all
    have hgd : w.drew.heap[g]? = some (.cells cur 5 fz) := hg
    rw [e, cell_of_row w.drew g j cur _ fz hgd, ← Array.getElem?_toList]
    rw [← ht, List.getElem?_take] at hj
    split at hj
    · exact hj
    · cases hj
   have hr := run_append_grow_src (P := Tryz.prog) w 102 tx ty 5 i0 (.int .u8 0) Tryz.underlying102 hi hz0 (some ⟨g, 0, none⟩) l.length cap (byteCells l) hold xv bs.length (byteCells bs) (by rw [hz1]; exact hsrc) (by omega) (by omega) (by rw [hz2]; exact growslice_fits (by omega) (by omega))
   refine ⟨_, _, hr, ?_, ⟨rfl, rfl, rfl, by simp, fun k hk _ => Below.heap_alloc w.drew _ k hk⟩, .inr rfl⟩
   have hge := grownCap_ge w (l.length + bs.length) cap 5
   have hzc : (Value.int IntKind.u8 0).cells.size = 1 := rfl
   refine ⟨w.heap.size, _, _, (0, 0), by rw [List.length_append], hbase, heap_alloc_new w.drew _, .inr rfl, by rw [List.length_append]; exact hge, grownCap_le_maxLen w _ cap _ (by unfold maxLen; omega), ?_, ?_⟩
   · simp only [Array.size_append, List.size_toArray, List.length_append, size_zeroCells, hzc, byteCells_len]; omega
   · rw [Array.toList_append]
     show (byteCells l ++ byteCells bs ++ _).take (l ++ bs).length = _
     rw [List.take_left' (by simp [byteCells_len])]
     unfold byteCells
     rw [List.map_append]
theorem wpList_append_buf {w : World} {ops : Array Oper} {rest : List Oper} {o : Oper} {a : Act} {Q : Exit → Act → World → Prop} (hgd : o.guard = none) (sl x : Operand) (tx : TypeId)
 (ho : o.op = .call { callee := .builtin .append, args := #[sl, x], argTypes := #[102, tx] })
 (base : Nat) (v xv : Value) (l bs : List UInt8) (hs : a.eval sl = v) (h : Buf w base v l) (hx : a.eval x = xv) (hsrc : Src Tryz.prog 1 tx xv bs.length (byteCells bs) w) (hlen : l.length + bs.length ≤ 140737488355328) (hbase : base ≤ w.heap.size)
 (hK : ∀ v' w', Buf w' base v' (l ++ bs) → w.grownBy w' v.ownBlock → (v'.ownBlock = v.ownBlock ∨ v'.ownBlock = some w.heap.size) → wpList Tryz.prog ops Q rest (a.put o.dst v') w') : wpList Tryz.prog ops Q (o :: rest) a w := by
 refine wpList_plain hgd fun K hK' => ?_
 obtain ⟨v', w', hr, h2, h3, h4⟩ := run_append_buf w base v xv l bs tx o.type h hsrc hlen hbase
 unfold Oper.wp execOp
 simp only [ho, resolve, invoke, builtin, Sem.run_bind, Sem.run_pure, Result.andThen_ok, List.map_toArray, List.map_cons, List.map_nil, hs, hx, hr]
 exact hK' _ _ (hK v' w' h2 h3 h4)
theorem src_str (w : World) (s : ByteArray) : Src Tryz.prog 1 9 (.string s) s.data.toList.length (byteCells s.data.toList) w := Src.ofString w Tryz.underlying9 s
theorem src_list (w : World) (l : List UInt8) : Src Tryz.prog 1 9 (.string ⟨l.toArray⟩) l.length (byteCells l) w := by
 have := src_str w ⟨l.toArray⟩
 simpa using this
theorem src_byte (w : World) (c : UInt8) (N : Nat) (h : w.heap.size = N) : Src Tryz.prog 1 102 (.slice (some ⟨N, 0, none⟩) 1 1) [c].length (byteCells [c]) (w.alloc (.cells #[.int .u8 (c.toNat : Int)] 5)) := by
 subst h
 exact Src.ofSlice _ Tryz.underlying102 ⟨w.heap.size, 0, none⟩ 1 1 (byteCells [c]) rfl (cell_one_new w _ _) (byteCells_one _)
theorem Buf.conv {w : World} {base : Nat} {v : Value} {l : List UInt8} (h : Buf w base v l) : (convert 102 9 v).run Tryz.prog w = .ok (.string ⟨l.toArray⟩) w := by
 obtain ⟨g, cap, cur, fz, rfl, hb, hg, _, _, _, _, ht⟩ := h
 refine run_convert_bytes_back w 102 9 5 ⟨g, 0, none⟩ cap l Tryz.underlying102 Tryz.underlying5 Tryz.underlying9 (fun j hj => ?_)
 have e : (⟨g, 0, none⟩ : Addr).add j = ⟨g, j, none⟩ := by unfold Addr.add; split <;> simp_all
 rw [e, cell_of_row w g j cur _ fz hg, ← Array.getElem?_toList]
 have h1 : (cur.toList.take l.length)[j]? = (byteCells l)[j]? := by rw [ht]
 rw [List.getElem?_take, if_pos hj] at h1
 rw [h1]
 simp [byteCells, hj]
end
end Go.Proofs.YtijbpdpkoamhbaaGreat

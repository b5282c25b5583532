/-
  Parts of what the laws of this seat stand on: StoApd, StoHold, StoFit, StoFrm.
-/
import Derived.Test.YthhhocgpoenigaaGreatBu11
import Derived.Test.YthhhocgpoenigaaGreatBu18
import Derived.Test.YthhhocgpoenigaaGreatBu19
import Derived.Test.YthhhocgpoenigaaGreatBu20
import Derived.Test.YthhhocgpoenigaaGreatBu28
import Derived.Test.YthhhocgpoenigaaGreatBu9
namespace Go.Proofs.YthhhocgpoenigaaGreat.Sto
open Go.RowKit Go.Proofs.YthhhocgpoenigaaGreat.So Go.Proofs.YthhhocgpoenigaaGreat.Dsk Go.Proofs.YthhhocgpoenigaaGreat.Rts

/-- What is done behind the roll, if there is one. -/
def appX (T : St) (E : Int) (r : Rp.Rec) : St × Int :=
  if (tk (T.d, E) (Dp.append T.d (segN (lastG T).b) ⟨(Rp.putB r).toArray⟩)).2 ≠ 0 then ({ T with d := (tk (T.d, E) (Dp.append T.d (segN (lastG T).b) ⟨(Rp.putB r).toArray⟩)).1 }, (tk (T.d, E) (Dp.append T.d (segN (lastG T).b) ⟨(Rp.putB r).toArray⟩)).2)
  else ({ T with d := (tk (T.d, E) (Dp.append T.d (segN (lastG T).b) ⟨(Rp.putB r).toArray⟩)).1, g := grown T.g (Rp.putB r).length, x := T.x + 1 }, 0)
theorem app_x {S : St} {q : Int} {r : Rp.Rec} (h1 : Rp.Ok r) (h2 : r.a = S.x) (h3 : S.x ≠ 1099511627776) : So.append S q r = if q ≤ (lastG S).z then appX (roll S).1 (roll S).2 r else appX S 0 r := by
  rw [app_p]
  unfold appP
  rw [if_neg (fun h => h ⟨h1, h2⟩), if_neg h3]
  by_cases h : q ≤ (lastG S).z
  · simp only [if_pos h]
    rfl
  · simp only [if_neg h]
    rfl
/-- The segments are cloned: they lie in a row of the call's own. -/
theorem Ms.own12 {w W W4 : World} {b : Nat} {fv0 gv0 fv gv : Value} {S : St} {cs : List (Nat × Obj)} {gs : List (Value × List Rt.Sg)} {R : Obj} {p n c : Nat} (h : Ms w b fv0 gv0 cs [(fv, S.d.f)] gs W) (h0 : (b, stO fv gv S) ∈ cs) (h1 : (b + 1, R) ∈ cs) (h2 : (b + 2, z11) ∈ cs) (k : Below W.heap.size W W4) (ho : OwnL SL W4 W.heap.size (.slice (some ⟨p, 0, none⟩) n c) S.g) :
    Tg w b fv0 gv0 fv p n c S (W4.setCell ⟨b, 6, none⟩ (.slice (some ⟨p, 0, none⟩) n c)) := by
  have hp := (ho.lt p rfl).1
  have hb := h.lt h2
  have h4 := h.keep k
  have hs := (h.f _ List.mem_cons_self).2
  refine ⟨heap_setCell_same _ _ 6 _ _ _ (h4.at_ h0), (Below.heap_setCell _ _ _ _ (fun e => by have e : b + 2 = b := e; omega)).trans (h4.at_ h2), IsL.setC (h4.fl List.mem_cons_self) (hs.1 _ h0) _ _, ?_, ⟨fun t a c => ?_, IsL.sep_new (h.fl List.mem_cons_self) hp⟩, hs.2, h4.w.setCell (p := ⟨b, 6, none⟩) (Nat.le_refl _) _⟩
  · have o2 : OwnL SL W4 (b + 3) (.slice (some ⟨p, 0, none⟩) n c) S.g := World.ownsRow.mono ho (by omega)
    exact World.ownsRow.kept o2 (row := some b) (grown_setb W4 b 6 _) (.inr (fun e2 => by simp [Value.ownBlock] at e2; omega))
  · rcases Nat.lt_or_ge t (b + 1) with h5 | h5
    · rw [show t = b by omega]; exact hs.1 _ h0
    · rcases Nat.lt_or_ge t (b + 2) with h6 | h6
      · rw [show t = b + 1 by omega]; exact hs.1 _ h1
      · rw [show t = b + 2 by omega]; exact hs.1 _ h2

set_option maxRecDepth 100000 in
set_option maxHeartbeats 6400000 in
theorem append12_any (fa ga : Option Addr) (fn fc gn gc : Nat) (S : St) (q : Int) (r : Rp.Rec) (w : World) (k : Nat) (hv : IsL FL w (.slice fa fn fc) S.d.f) (hg : IsL SL w (.slice ga gn gc) S.g) (hn : S.g ≠ []) (hB : Stb S) (hS : Bd S.d k) (hk : k ≤ 70000) (hver : S.v < 1152921504606846976) (hr : RecOk r) :
    Calls Tryz.prog 31 #[stVal (.slice fa fn fc) (.slice ga gn gc) S, .int .i64 q, recVal r] w (StOut w (.slice fa fn fc) (.slice ga gn gc) (So.append S q r)) := by
  have M0 := (((Ms.start hv hg).alloc #[.slice fa fn fc, .int .i64 S.d.c, .bool S.d.a, .int .i64 S.d.l, .bool S.d.x, .int .i64 S.v, .slice ga gn gc, .int .i64 S.x, .int .i64 S.s, .int .i64 S.z, .int .u32 S.c] 31).alloc #[.int .i64 r.a, .int .i64 r.t, .string r.d] 57).alloc #[.slice none 0 0, .int .i64 0, .bool false, .int .i64 0, .bool false, .int .i64 0, .slice none 0 0, .int .i64 0, .int .i64 0, .int .i64 0, .int .u32 0] 31
  simp only [World.size_alloc] at M0
  have HM0 := Lib.hid (show Ms w w.heap.size (.slice fa fn fc) (.slice ga gn gc) [(w.heap.size + 1 + 1, z11), (w.heap.size + 1, .cells #[.int .i64 r.a, .int .i64 r.t, .string r.d] 57), (w.heap.size, stO (.slice fa fn fc) (.slice ga gn gc) S)] [((.slice fa fn fc), S.d.f)] [((.slice ga gn gc), S.g)] _ from M0)
  have P := fun W : World => recput_any r W hr.d1
  have HAP := Lib.hid (app_p S q r)
  have RO := Lib.hid fun (hx : S.x ≤ 1099511627776) (W : World) (h1 : IsL FL W (.slice fa fn fc) S.d.f) (h2 : IsL SL W (.slice ga gn gc) S.g) => roll12_any fa ga fn fc gn gc S W k h1 h2 hn hB hS (by omega) ⟨hB.x.1, hx⟩ hver
  have RF := Lib.hid (roll_facts hn hB hS hk hver)
  have FU := fun (W : World) (h : IsL SL W (.slice ga gn gc) S.g) => full12_any (.slice fa fn fc) (.slice ga gn gc) S q W h hn hB.n
  have HS := Lib.hid (And.intro hS (And.intro hB hn))
  clear hv hg hn hB hS hver hr M0
  unfold stVal recVal
  unfold stVal at FU
  unfold recVal at P
  rcases putVal_cases r with ⟨hok, hpv⟩ | ⟨hok, e0, he0, hft, hpv⟩
  case inr =>
    rw [hpv] at P
    replace P := Lib.hid P
    have HRR := Lib.hid (show So.append S q r = (S, 1) from by rw [HAP.out]; unfold appP; rw [if_pos (fun h => hok h.1)])
    have hz' := ne_b (show e0 ≠ 0 by omega)
    have hz2 : (e0 != 0) = true := by simpa using (show e0 ≠ 0 by omega)
    clear hok hpv hft he0 HAP RO RF FU HS
    go_enter Tryz.func31, Tryz.ntmps31
    go_upto_region 1 with (fail)
    generalize World.alloc (World.alloc (World.alloc w _) _) _ = w0 at HM0 ⊢
    obtain ⟨e1, e2, e3⟩ := Dsk.cells3 (HM0.out.at_ (t := w.heap.size + 1) (List.mem_cons_of_mem _ List.mem_cons_self))
    go_wp2_with fail
    refine (P.out _).mono ?_
    rintro en w1 ⟨rfl, b1⟩
    have M1 := (HM0.out.keep b1).alloc #[.int .i64 e0] 32
    have HM1 := Lib.hid M1
    clear b1 e1 e2 e3 P
    obtain ⟨⟨k0, k1, k2, k3, k4⟩, k5, k6, k7, k8, k9, k10⟩ := cellsS (M1.at_ (t := w.heap.size) (List.mem_cons_of_mem _ (List.mem_cons_of_mem _ (List.mem_cons_of_mem _ List.mem_cons_self))))
    obtain ⟨⟨r0, r1, r2, r3, r4⟩, r5, r6, r7, r8, r9, r10⟩ := cellsS (M1.at_ (t := w.heap.size + 1 + 1) (List.mem_cons_of_mem _ List.mem_cons_self))
    have kr := frozenS (M1.at_ (t := w.heap.size + 1 + 1) (List.mem_cons_of_mem _ List.mem_cons_self))
    clear M1
    go_wp2_with fail
    obtain ⟨Zr, hZr, M8⟩ := HM1.out.lay11 (cs' := [(w.heap.size + 1 + 1, stO (.slice fa fn fc) (.slice ga gn gc) S)]) (t := w.heap.size + 1 + 1) (List.mem_cons_of_mem _ List.mem_cons_self) (.slice fa fn fc) (.int .i64 S.d.c) (.bool S.d.a) (.int .i64 S.d.l) (.bool S.d.x) (.int .i64 S.v) (.slice ga gn gc) (.int .i64 S.x) (.int .i64 S.s) (.int .i64 S.z) (.int .u32 S.c) (fun p hp => by
      simp only [List.mem_cons, List.not_mem_nil, or_false] at hp
      subst hp
      exact .inl rfl)
    rw [hZr]
    have M9 := M8
    obtain ⟨⟨z0, z1, z2, z3, z4⟩, z5, z6, z7, z8, z9, z10⟩ := cellsS (M9.at_ List.mem_cons_self)
    refine bodyPost_ret (v := .tuple #[stVal (.slice fa fn fc) (.slice ga gn gc) S, .int .i64 1]) (by unfold stVal; simp [results, Tryz.results31, go_sem, z0, z1, z2, z3, z4, z5, z6, z7, z8, z9, z10]) rfl ?_
    rw [HRR.out]
    exact ⟨_, _, _, _, _, _, rfl, M9.sts (T := S) List.mem_cons_self List.mem_cons_self⟩

  rw [hpv] at P
  have hpb : (⟨(Rp.putB r).toArray⟩ : ByteArray) = ⟨(Fr.fr (Rp.body r)).toArray⟩ := by rw [Rp.putB_yes (Rp.fault_zero hok)]
  rw [← hpb] at P
  replace P := Lib.hid P
  have HOK := Lib.hid hok
  clear hpv hpb hok
  go_enter Tryz.func31, Tryz.ntmps31
  go_upto_region 1 with (fail)
  generalize World.alloc (World.alloc (World.alloc w _) _) _ = w0 at HM0 ⊢
  obtain ⟨e1, e2, e3⟩ := Dsk.cells3 (HM0.out.at_ (t := w.heap.size + 1) (List.mem_cons_of_mem _ List.mem_cons_self))
  go_wp2_with fail
  refine (P.out _).mono ?_
  rintro en w1 ⟨rfl, b1⟩
  have M1 := (HM0.out.keep b1).alloc #[.int .i64 0] 32
  have hlt := Nat.lt_of_lt_of_le (HM0.out.lt (t := w.heap.size + 1 + 1) List.mem_cons_self) b1.size
  clear b1 e1 e2 e3 P
  go_upto_region 2 with (fail)
  obtain ⟨e, he⟩ : ∃ e, w1.heap.size = e := ⟨_, rfl⟩
  rw [he] at M1 hlt ⊢
  generalize w1.alloc _ = w2 at M1 ⊢
  have M2 : Ms w w.heap.size (.slice fa fn fc) (.slice ga gn gc) [(w.heap.size, stO (.slice fa fn fc) (.slice ga gn gc) S), (e, .cells #[.int .i64 0] 32), (w.heap.size + 1, .cells #[.int .i64 r.a, .int .i64 r.t, .string r.d] 57), (w.heap.size + 1 + 1, z11)] [((.slice fa fn fc), S.d.f)] [((.slice ga gn gc), S.g)] w2 := M1.sub (fun p hp => by
    simp only [List.mem_cons, List.not_mem_nil, or_false] at hp ⊢
    rcases hp with rfl | rfl | rfl | rfl
    · exact .inr (.inr (.inr rfl))
    · exact .inl rfl
    · exact .inr (.inr (.inl rfl))
    · exact .inr (.inl rfl)) (fun _ h => h) (fun _ h => h)
  have HM2 := Lib.hid M2
  have HNE := Lib.hid hlt
  have HMD := Lib.hid (M2.keep (W' := w2.drew) (Below.refl _ _).drew)
  obtain ⟨⟨k0, k1, k2, k3, k4⟩, k5, k6, k7, k8, k9, k10⟩ := cellsS (M2.at_ (t := w.heap.size) List.mem_cons_self)
  obtain ⟨ec, _⟩ := cells1 (M2.at_ (t := e) (List.mem_cons_of_mem _ List.mem_cons_self))
  obtain ⟨e1, e2, e3⟩ := Dsk.cells3 (M2.at_ (t := w.heap.size + 1) (List.mem_cons_of_mem _ (List.mem_cons_of_mem _ List.mem_cons_self)))
  obtain ⟨⟨r0, r1, r2, r3, r4⟩, r5, r6, r7, r8, r9, r10⟩ := cellsS (M2.at_ (t := w.heap.size + 1 + 1) (List.mem_cons_of_mem _ (List.mem_cons_of_mem _ (List.mem_cons_of_mem _ List.mem_cons_self))))
  have kr := frozenS (M2.at_ (t := w.heap.size + 1 + 1) (List.mem_cons_of_mem _ (List.mem_cons_of_mem _ (List.mem_cons_of_mem _ List.mem_cons_self))))
  clear M1 M2 he hlt HM0
  by_cases hat : r.a = S.x
  case neg =>
    have HRR := Lib.hid (show So.append S q r = (S, 1) from by rw [HAP.out]; unfold appP; rw [if_pos (fun h => hat h.2)])
    have hat' : (r.a != S.x) = true := by simpa using hat
    clear hat HAP RO RF FU HS
    go_wp2_with fail
    obtain ⟨Zr, hZr, M8⟩ := HM2.out.lay11 (cs' := [(w.heap.size + 1 + 1, stO (.slice fa fn fc) (.slice ga gn gc) S)]) (t := w.heap.size + 1 + 1) (List.mem_cons_of_mem _ (List.mem_cons_of_mem _ (List.mem_cons_of_mem _ List.mem_cons_self))) (.slice fa fn fc) (.int .i64 S.d.c) (.bool S.d.a) (.int .i64 S.d.l) (.bool S.d.x) (.int .i64 S.v) (.slice ga gn gc) (.int .i64 S.x) (.int .i64 S.s) (.int .i64 S.z) (.int .u32 S.c) (fun p hp => by
      simp only [List.mem_cons, List.not_mem_nil, or_false] at hp
      subst hp
      exact .inl rfl)
    rw [hZr]
    have M9 := M8
    obtain ⟨⟨z0, z1, z2, z3, z4⟩, z5, z6, z7, z8, z9, z10⟩ := cellsS (M9.at_ List.mem_cons_self)
    refine bodyPost_ret (v := .tuple #[stVal (.slice fa fn fc) (.slice ga gn gc) S, .int .i64 1]) (by unfold stVal; simp [results, Tryz.results31, go_sem, z0, z1, z2, z3, z4, z5, z6, z7, z8, z9, z10]) rfl ?_
    rw [HRR.out]
    exact ⟨_, _, _, _, _, _, rfl, M9.sts (T := S) List.mem_cons_self List.mem_cons_self⟩

  have HAT := Lib.hid hat
  have hat' : (r.a != S.x) = false := by simpa using hat
  have hx1 : S.x ≤ 1099511627776 := by have := HOK.out.2.1; omega
  clear hat
  by_cases hend : S.x = 1099511627776
  case pos =>
    have HRR := Lib.hid (show So.append S q r = (S, 13) from by rw [HAP.out]; unfold appP; rw [if_neg (fun h => h ⟨HOK.out, HAT.out⟩), if_pos hend])
    have hend' : (S.x == 1099511627776) = true := by simpa using hend
    clear hend HAP RO RF FU HS hx1
    go_wp2_with fail
    obtain ⟨Zr, hZr, M8⟩ := HM2.out.lay11 (cs' := [(w.heap.size + 1 + 1, stO (.slice fa fn fc) (.slice ga gn gc) S)]) (t := w.heap.size + 1 + 1) (List.mem_cons_of_mem _ (List.mem_cons_of_mem _ (List.mem_cons_of_mem _ List.mem_cons_self))) (.slice fa fn fc) (.int .i64 S.d.c) (.bool S.d.a) (.int .i64 S.d.l) (.bool S.d.x) (.int .i64 S.v) (.slice ga gn gc) (.int .i64 S.x) (.int .i64 S.s) (.int .i64 S.z) (.int .u32 S.c) (fun p hp => by
      simp only [List.mem_cons, List.not_mem_nil, or_false] at hp
      subst hp
      exact .inl rfl)
    rw [hZr]
    have M9 := M8
    obtain ⟨⟨z0, z1, z2, z3, z4⟩, z5, z6, z7, z8, z9, z10⟩ := cellsS (M9.at_ List.mem_cons_self)
    refine bodyPost_ret (v := .tuple #[stVal (.slice fa fn fc) (.slice ga gn gc) S, .int .i64 13]) (by unfold stVal; simp [results, Tryz.results31, go_sem, z0, z1, z2, z3, z4, z5, z6, z7, z8, z9, z10]) rfl ?_
    rw [HRR.out]
    exact ⟨_, _, _, _, _, _, rfl, M9.sts (T := S) List.mem_cons_self List.mem_cons_self⟩

  have HRR := Lib.hid (app_x (q := q) HOK.out HAT.out hend)
  have hend' : (S.x == 1099511627776) = false := by simpa using hend
  clear hend HAP
  replace FU := Lib.hid FU
  go_wp2_with fail
  refine (FU.out _ (HM2.out.sl List.mem_cons_self)).mono ?_
  rintro en w3 ⟨rfl, b3⟩
  have HM3 := Lib.hid (HM2.out.keep b3)
  have RO2 := Lib.hid (RO.out hx1)
  clear b3 HM2 HMD FU RO k0 k1 k2 k3 k4 k5 k6 k7 k8 k9 k10 ec e1 e2 e3 r0 r1 r2 r3 r4 r5 r6 r7 r8 r9 r10 kr
  go_upto_if 35 with (fail)
  go_cut [8] (fun sv wc => sv = .string ⟨(Rp.putB r).toArray⟩ ∧ ∃ (T : St) (E : Int) (a1 : Option Addr) (n1 c1 : Nat) (a2 : Option Addr) (n2 c2 : Nat), Hid (So.append S q r = appX T E r ∧ Bd T.d (k + 8) ∧ Stb T ∧ T.g ≠ [] ∧ T.x = S.x) ∧ Ms w w.heap.size (.slice fa fn fc) (.slice ga gn gc) [(w.heap.size, stO (.slice a1 n1 c1) (.slice a2 n2 c2) T), (e, .cells #[.int .i64 E] 32), (w.heap.size + 1, .cells #[.int .i64 r.a, .int .i64 r.t, .string r.d] 57), (w.heap.size + 1 + 1, z11)] [(.slice a1 n1 c1, T.d.f)] [(.slice a2 n2 c2, T.g)] wc)
  case first =>
    by_cases hq : q ≤ (lastG S).z
    · rw [decide_eq_true hq]
      obtain ⟨⟨T, E⟩, hT⟩ : ∃ R, roll S = R := ⟨_, rfl⟩
      have RO3 := RO2.out w3 (HM3.out.fl List.mem_cons_self) (HM3.out.sl List.mem_cons_self)
      have RF2 := RF.out
      rw [hT] at RO3 RF2
      have HE := Lib.hid (show So.append S q r = appX T E r from by rw [HRR.out, if_pos hq, hT])
      replace RF2 := Lib.hid RF2
      unfold stVal at RO3
      replace RO3 := Lib.hid RO3
      clear hT RO2 RF HRR hq
      have M3 := HM3.out
      obtain ⟨⟨k0, k1, k2, k3, k4⟩, k5, k6, k7, k8, k9, k10⟩ := cellsS (M3.at_ (t := w.heap.size) List.mem_cons_self)
      clear M3
      go_wp2_with fail
      refine RO3.out.mono ?_
      rintro en w4 ⟨a1, n1, c1, a2, n2, c2, rfl, ss⟩
      have M4 := HM3.out.call2 (T := T) List.mem_cons_self List.mem_cons_self ss
      have N2 := HNE.out
      obtain ⟨Z5, hZ5, M5⟩ := M4.lay11 (cs' := [(w.heap.size, stO (.slice a1 n1 c1) (.slice a2 n2 c2) T), (e, .cells #[.int .i64 0] 32), (w.heap.size + 1, .cells #[.int .i64 r.a, .int .i64 r.t, .string r.d] 57), (w.heap.size + 1 + 1, z11)]) (t := w.heap.size) List.mem_cons_self (.slice a1 n1 c1) (.int .i64 T.d.c) (.bool T.d.a) (.int .i64 T.d.l) (.bool T.d.x) (.int .i64 T.v) (.slice a2 n2 c2) (.int .i64 T.x) (.int .i64 T.s) (.int .i64 T.z) (.int .u32 T.c) (fun p hp => by
        simp only [List.mem_cons, List.not_mem_nil, or_false] at hp ⊢
        rcases hp with rfl | rfl | rfl | rfl
        · exact .inl rfl
        · exact .inr ⟨.inr (.inl rfl), by show e ≠ w.heap.size; omega⟩
        · exact .inr ⟨.inr (.inr (.inl rfl)), by show w.heap.size + 1 ≠ w.heap.size; omega⟩
        · exact .inr ⟨.inr (.inr (.inr rfl)), by show w.heap.size + 1 + 1 ≠ w.heap.size; omega⟩)
      obtain ⟨Z6, hZ6, M6⟩ := M5.lay1 (cs' := [(w.heap.size, stO (.slice a1 n1 c1) (.slice a2 n2 c2) T), (e, .cells #[.int .i64 E] 32), (w.heap.size + 1, .cells #[.int .i64 r.a, .int .i64 r.t, .string r.d] 57), (w.heap.size + 1 + 1, z11)]) (t := e) (List.mem_cons_of_mem _ List.mem_cons_self) 0 (.int .i64 E) (fun p hp => by
        simp only [List.mem_cons, List.not_mem_nil, or_false] at hp ⊢
        rcases hp with rfl | rfl | rfl | rfl
        · exact .inr ⟨.inl rfl, by show w.heap.size ≠ e; omega⟩
        · exact .inl rfl
        · exact .inr ⟨.inr (.inr (.inl rfl)), by show w.heap.size + 1 ≠ e; omega⟩
        · exact .inr ⟨.inr (.inr (.inr rfl)), by show w.heap.size + 1 + 1 ≠ e; omega⟩)
      have HZ := Lib.hid (And.intro hZ5 hZ6)
      have HM6 := Lib.hid (M6.sub (fun _ h => h) (fs' := [(.slice a1 n1 c1, T.d.f)]) (gs' := [(.slice a2 n2 c2, T.g)]) (fun p hp => by rw [List.mem_singleton] at hp; rw [hp]; exact List.mem_cons_self) (fun p hp => by rw [List.mem_singleton] at hp; rw [hp]; exact List.mem_cons_self))
      have ne1 : ¬ (e = w.heap.size) := by omega
      have ne2 : ¬ (w.heap.size = e) := by omega
      clear k0 k1 k2 k3 k4 k5 k6 k7 k8 k9 k10 ss hZ5 hZ6 M5 M6 N2
      obtain ⟨⟨k0, k1, k2, k3, k4⟩, k5, k6, k7, k8, k9, k10⟩ := cellsS (M4.at_ (t := w.heap.size) List.mem_cons_self)
      have kf := frozenS (M4.at_ (t := w.heap.size) List.mem_cons_self)
      obtain ⟨ec, ef⟩ := cells1 (M4.at_ (t := e) (List.mem_cons_of_mem _ List.mem_cons_self))
      clear M4
      unfold stVal
      go_wp2_with fail
      rw [HZ.out.1, HZ.out.2]
      go_meet
      case rel => exact ⟨rfl, T, E, _, _, _, _, _, _, Lib.hid ⟨HE.out, RF2.out⟩, HM6.out⟩
    · rw [decide_eq_false hq]
      have HE := Lib.hid (show So.append S q r = appX S 0 r from by rw [HRR.out, if_neg hq])
      clear hq HRR RO2 RF
      go_wp2_with fail
      go_meet
      case rel => exact ⟨rfl, S, 0, _, _, _, _, _, _, Lib.hid ⟨HE.out, HS.out.1.mono (by omega), HS.out.2.1, HS.out.2.2, rfl⟩, HM3.out⟩
  case rest =>
    obtain ⟨rfl, T, E, a1, n1, c1, a2, n2, c2, HQ, M4⟩ := hcut
    obtain ⟨HAQ, HBT, HTB, HTN, HTX⟩ := HQ.out
    have N2 := HNE.out
    have HT0 := Tk.new (A := form11 (.slice a2 n2 c2) T) (T := 31) (t := w.heap.size) (e := e) (v := .slice a1 n1 c1) (X := (T.d, E)) (xs := [(w.heap.size + 1, .cells #[.int .i64 r.a, .int .i64 r.t, .string r.d] 57), (w.heap.size + 1 + 1, z11)]) (gs := [(.slice a2 n2 c2, T.g)]) M4 (by omega) (fun p hp => by
      simp only [List.mem_cons, List.not_mem_nil, or_false] at hp
      rcases hp with rfl | rfl
      · exact ⟨by show w.heap.size + 1 ≠ w.heap.size; omega, by show w.heap.size + 1 ≠ e; omega⟩
      · exact ⟨by show w.heap.size + 1 + 1 ≠ w.heap.size; omega, by show w.heap.size + 1 + 1 ≠ e; omega⟩)
    have FI := Lib.hid fun (W : World) (h : IsL SL W (.slice a2 n2 c2) T.g) => file12_any (.slice a1 n1 c1) (.slice a2 n2 c2) T W h HTN (fun g hg => (HTB.g g hg).1) HTB.n
    unfold stVal at FI
    have hsz : (⟨(Rp.putB r).toArray⟩ : ByteArray).size ≤ 3000 := by
      rw [size_mk_list]
      have := Rp.putB_le r
      omega
    have HX : ∃ X, tk (T.d, E) (Dp.append T.d (segN (lastG T).b) ⟨(Rp.putB r).toArray⟩) = X := ⟨_, rfl⟩
    obtain ⟨⟨XD, XE⟩, hX⟩ := HX
    have HRR2 := HAQ
    unfold appX at HRR2
    rw [hX] at HRR2
    replace HRR2 := Lib.hid HRR2
    have HXX := Lib.hid hX
    have HB5 := Lib.hid (And.intro HBT (And.intro hsz (Rp.putB_le r)))
    have HTB2 := Lib.hid HTB
    have HTN2 := Lib.hid HTN
    have HTX2 := Lib.hid HTX
    have HPS := Lib.hid (size_mk_list (Rp.putB r))
    clear HQ HAQ HBT HTB HTN HTX hsz hX M4 HM3 RO2 RF HRR HS N2
    go_wp2_with fail
    refine (taking_any _ _ _).mono ?_
    rintro en w5 ⟨rfl, rfl⟩
    obtain ⟨d, hd⟩ : ∃ d, wc.heap.size = d := ⟨_, rfl⟩
    rw [hd] at HT0 ⊢
    generalize World.alloc (World.alloc wc _) _ = w5 at HT0 ⊢
    have HT1 := Lib.hid HT0
    obtain ⟨⟨k0, k1, k2, k3, k4⟩, k5, k6, k7, k8, k9, k10⟩ := cellsS HT0.hd
    clear HT0 hd
    dsimp only at k0 k1 k2 k3 k4
    go_wp2_with fail
    refine (FI.out _ (HT1.out.m.sl List.mem_cons_self)).mono ?_
    rintro en w6 ⟨rfl, b6⟩
    have HT2 := Lib.hid (HT1.out.keep b6)
    clear b6 HT1 FI k0 k1 k2 k3 k4 k5 k6 k7 k8 k9 k10
    generalize hNN : segN (lastG T).b = nn12 at *
    go_wp2_with fail
    refine (appended_any nn12 _ _).mono ?_
    rintro en w7 ⟨rfl, rfl⟩
    go_wp2_with fail
    refine (Tk.take (form11_is _ _) (HT2.out.al2 _ _) (stp_appended HB5.out.1 (by omega) nn12 _ HB5.out.2.1 HT2.out.fl)).mono ?_
    rintro en w8 ⟨rfl, a8, n8, c8, T8⟩
    rw [show tk (T.d, E) (Dp.append (T.d, E).1 nn12 ⟨(Rp.putB r).toArray⟩) = (XD, XE) from HXX.out] at T8
    have HT8 := Lib.hid T8
    clear HT2 hNN HXX
    obtain ⟨⟨k0, k1, k2, k3, k4⟩, k5, k6, k7, k8, k9, k10⟩ := cellsS T8.hd
    have kf := frozenS T8.hd
    obtain ⟨ec, ef⟩ := cells1 T8.he
    have hz := T8.hx (i := w.heap.size + 1 + 1) (o := z11) (List.mem_cons_of_mem _ List.mem_cons_self)
    obtain ⟨⟨r0, r1, r2, r3, r4⟩, r5, r6, r7, r8, r9, r10⟩ := cellsS hz
    have kr := frozenS hz
    dsimp only at k0 k1 k2 k3 k4 ec
    clear T8 hz
    by_cases hE : XE = 0
    case neg =>
      have HRR := Lib.hid (show So.append S q r = ({ T with d := XD }, XE) from by rw [HRR2.out, if_pos hE])
      have hE' := ne_b hE
      have N2 := HNE.out
      have ne1 : ¬ (e = w.heap.size + 1 + 1) := by omega
      have ne2 : ¬ (w.heap.size + 1 + 1 = e) := by omega
      have ne3 : ¬ (w.heap.size = w.heap.size + 1 + 1) := by omega
      have ne4 : ¬ (w.heap.size + 1 + 1 = w.heap.size) := by omega
      clear hE HRR2 N2
      go_upto_region 11 with (fail)
      go_region
      all_goals
        go_wp2_with fail
        obtain ⟨Zr, hZr, M8⟩ := HT8.out.m.lay11 (cs' := [(w.heap.size + 1 + 1, stO (.slice a8 n8 c8) (.slice a2 n2 c2) { T with d := XD })]) (t := w.heap.size + 1 + 1) (List.mem_cons_of_mem _ (List.mem_cons_of_mem _ (List.mem_cons_of_mem _ (List.mem_cons_of_mem _ (List.mem_cons_of_mem _ List.mem_cons_self))))) (.slice a8 n8 c8) (.int .i64 XD.c) (.bool XD.a) (.int .i64 XD.l) (.bool XD.x) (.int .i64 T.v) (.slice a2 n2 c2) (.int .i64 T.x) (.int .i64 T.s) (.int .i64 T.z) (.int .u32 T.c) (fun p hp => by
          simp only [List.mem_cons, List.not_mem_nil, or_false] at hp
          subst hp
          exact .inl rfl)
        rw [hZr]
        have M9 := M8.keep (W' := Zr.drew) (Below.refl _ _).drew
        obtain ⟨⟨z0, z1, z2, z3, z4⟩, z5, z6, z7, z8, z9, z10⟩ := cellsS (M9.at_ List.mem_cons_self)
        refine bodyPost_ret (v := .tuple #[stVal (.slice a8 n8 c8) (.slice a2 n2 c2) { T with d := XD }, .int .i64 XE]) (by unfold stVal; simp [results, Tryz.results31, go_sem, z0, z1, z2, z3, z4, z5, z6, z7, z8, z9, z10]) rfl ?_
        rw [HRR.out]
        exact ⟨_, _, _, _, _, _, rfl, M9.sts (T := { T with d := XD }) List.mem_cons_self List.mem_cons_self⟩

    subst hE
    have HRR := Lib.hid (show So.append S q r = ({ T with d := XD, g := grown T.g (Rp.putB r).length, x := T.x + 1 }, 0) from by rw [HRR2.out, if_neg (fun h => h rfl)])
    have HPL := Lib.hid HB5.out.2.2
    obtain ⟨pb, hpb⟩ : ∃ pb, (⟨(Rp.putB r).toArray⟩ : ByteArray) = pb := ⟨_, rfl⟩
    rw [hpb] at HPS ⊢
    generalize (Rp.putB r).length = pl at HRR HPL HPS
    clear HRR2 HB5 hpb
    have N2 := HNE.out
    have hgl2 := (HT8.out.m.sl List.mem_cons_self).len.1
    have hp2 : 0 < T.g.length := List.length_pos_iff.2 HTN2.out
    have hn10 := HTB2.out.n
    obtain ⟨m2, rfl⟩ : ∃ m2, n2 = m2 + 1 := ⟨n2 - 1, by omega⟩
    have HM2 := Lib.hid hgl2.symm
    have HLT := Lib.hid (show T.g.getD m2 Rt.zero = lastG T by unfold lastG; rw [show T.g.length - 1 = m2 by omega])
    have HLG := Lib.hid (HTB2.out.g (lastG T) (by rw [← HLT.out, getD_lt (by omega)]; exact List.getElem_mem _))
    have hwx : IntKind.i64.wrap (T.x + 1) = T.x + 1 := IntWalk.i64_in _ ⟨by have := HTB2.out.x; omega, by have := HTB2.out.x; omega⟩
    have HXL := Lib.hid (HT8.out.m.lay1 (cs' := [(w.heap.size, stO (.slice a8 n8 c8) (.slice a2 (m2 + 1) c2) { T with d := XD, x := T.x + 1 }), (w.heap.size + 1, .cells #[.int .i64 r.a, .int .i64 r.t, .string r.d] 57), (w.heap.size + 1 + 1, z11)]) (t := w.heap.size) List.mem_cons_self 7 (.int .i64 (T.x + 1)) (fun p hp => by
      simp only [List.mem_cons, List.not_mem_nil, or_false] at hp ⊢
      rcases hp with rfl | rfl | rfl
      · exact .inl rfl
      · exact .inr ⟨.inr (.inr (.inr (.inr (.inl rfl)))), by show w.heap.size + 1 ≠ w.heap.size; omega⟩
      · exact .inr ⟨.inr (.inr (.inr (.inr (.inr rfl)))), by show w.heap.size + 1 + 1 ≠ w.heap.size; omega⟩))
    clear hgl2 hp2 N2
    go_upto_region 13 with (fail)
    obtain ⟨w9, h9, M9⟩ := HXL.out
    rw [h9]
    have HM9 := Lib.hid M9
    clear h9 HXL HT8 k0 k1 k2 k3 k4 k5 k6 k7 k8 k9 k10 kf ec ef r0 r1 r2 r3 r4 r5 r6 r7 r8 r9 r10 kr hwx
    obtain ⟨⟨k0, k1, k2, k3, k4⟩, k5, k6, k7, k8, k9, k10⟩ := cellsS (M9.at_ (t := w.heap.size) List.mem_cons_self)
    clear M9
    have CL := Lib.hid (sgclone_any (.slice a2 (m2 + 1) c2) T.g w9 (HM9.out.sl List.mem_cons_self) (by omega))
    go_wp2_with fail
    refine CL.out.mono ?_
    rintro en w10 ⟨v, rfl, ho, b10⟩
    obtain ⟨g3, cap3, cur3, rfl, _⟩ := ho.open_ (by rw [HM2.out]; omega)
    rw [HM2.out] at ho ⊢
    have G1 := HM9.out.own12 (S := { T with d := XD, x := T.x + 1 }) List.mem_cons_self (List.mem_cons_of_mem _ List.mem_cons_self) (List.mem_cons_of_mem _ (List.mem_cons_of_mem _ List.mem_cons_self)) b10 ho
    have M10 := HM9.out.keep b10
    have HG1 := Lib.hid G1
    clear k0 k1 k2 k3 k4 k5 k6 k7 k8 k9 k10 CL ho b10 G1
    obtain ⟨⟨k0, k1, k2, k3, k4⟩, k5, k6, k7, k8, k9, k10⟩ := cellsS (M10.at_ (t := w.heap.size) List.mem_cons_self)
    have kf := frozenS (M10.at_ (t := w.heap.size) List.mem_cons_self)
    clear M10 HM9
    go_upto_region 14 with (fail)
    generalize w10.setCell _ _ = w11 at HG1 ⊢
    clear k0 k1 k2 k3 k4 k5 k6 k7 k8 k9 k10 kf
    have G1 := HG1.out
    have hgm : m2 < T.g.length := by rw [HM2.out]; omega
    obtain ⟨⟨k0, k1, k2, k3, k4⟩, k5, k6, k7, k8, k9, k10⟩ := cellsS G1.d
    obtain ⟨g0, g1, g2⟩ := G1.at_ (i := m2) hgm
    have gf := G1.froz (m2 * 3 + 1)
    dsimp only at k0 k1 k2 k3 k4 k5 k7 k8 k9 k10 g0 g1 g2
    rw [HLT.out] at g0 g1 g2
    have LN := Lib.hid (G1.setN (i := m2) hgm ((lastG T).n + 1))
    have hLG := HLG.out
    have hmv : IntKind.i64.wrap (((m2 + 1 : Nat) : Int) - 1) = (m2 : Int) := by
      rw [show ((m2 + 1 : Nat) : Int) - 1 = (m2 : Int) from by omega]
      exact IntWalk.i64_in _ ⟨by omega, by omega⟩
    have hmv2 : IntKind.i64.wrap (m2 : Int) = (m2 : Int) := IntWalk.i64_in _ ⟨by omega, by omega⟩
    have hwn : IntKind.i64.wrap ((lastG T).n + 1) = (lastG T).n + 1 := IntWalk.i64_in _ ⟨by omega, by omega⟩
    clear G1 hLG HG1
    go_upto_region 16 with (fail)
    generalize w11.setCell _ _ = w12 at LN ⊢
    have G2 := LN.out
    clear LN k0 k1 k2 k3 k4 k5 k6 k7 k8 k9 k10 g0 g1 g2 gf hwn
    dsimp only at G2
    have hgm2 : m2 < (T.g.set m2 ⟨(T.g.getD m2 Rt.zero).b, (lastG T).n + 1, (T.g.getD m2 Rt.zero).z⟩).length := by rw [List.length_set]; exact hgm
    obtain ⟨g0, g1, g2⟩ := G2.at_ (i := m2) hgm2
    have gf := G2.froz (m2 * 3 + 2)
    dsimp only at g2
    have hset : (T.g.set m2 ⟨(T.g.getD m2 Rt.zero).b, (lastG T).n + 1, (T.g.getD m2 Rt.zero).z⟩).getD m2 Rt.zero = ⟨(lastG T).b, (lastG T).n + 1, (lastG T).z⟩ := by
      rw [HLT.out]
      simp [List.getD_eq_getElem?_getD, hgm]
    rw [hset] at g2
    dsimp only at g2
    have HZ2 := Lib.hid (G2.setZ (i := m2) hgm2 ((lastG T).z + (pl : Int)))
    have hgr : (T.g.set m2 ⟨(T.g.getD m2 Rt.zero).b, (lastG T).n + 1, (T.g.getD m2 Rt.zero).z⟩).set m2 ⟨((T.g.set m2 ⟨(T.g.getD m2 Rt.zero).b, (lastG T).n + 1, (T.g.getD m2 Rt.zero).z⟩).getD m2 Rt.zero).b, ((T.g.set m2 ⟨(T.g.getD m2 Rt.zero).b, (lastG T).n + 1, (T.g.getD m2 Rt.zero).z⟩).getD m2 Rt.zero).n, (lastG T).z + (pl : Int)⟩ = grown T.g pl := by
      rw [hset, List.set_set]
      unfold grown
      rw [show T.g.length - 1 = m2 from by rw [HM2.out]; rfl, HLT.out]
    have hPL := HPL.out
    have hLG := HLG.out
    have hwz : IntKind.i64.wrap ((lastG T).z + (pl : Int)) = (lastG T).z + (pl : Int) := IntWalk.i64_in _ ⟨by omega, by omega⟩
    dsimp only at HZ2
    rw [hgr] at HZ2
    have hpbz : pb.size = pl := HPS.out
    rw [← hpbz] at hwz HZ2 HRR hPL
    have HPZ := Lib.hid hPL
    clear hgr hset G2 g0 g1 hPL hLG hpbz HPS HPL
    have hgo : ∀ g ∈ grown T.g pb.size, SL.ok g := fun g hg => by
      have hc : g ∈ T.g ∨ g = ⟨(lastG T).b, (lastG T).n + 1, (lastG T).z + (pb.size : Int)⟩ := by
        unfold grown at hg
        rw [show T.g.length - 1 = m2 from by rw [HM2.out]; rfl, HLT.out] at hg
        exact List.mem_or_eq_of_mem_set hg
      have hlz := HLG.out
      rcases hc with hc | hc
      · have := HTB2.out.g g hc
        exact ⟨⟨by omega, by omega⟩, ⟨by omega, by omega⟩, ⟨by omega, by omega⟩⟩
      · subst hc
        exact ⟨⟨by show _ ≤ (lastG T).b; omega, by show (lastG T).b ≤ _; omega⟩, ⟨by show _ ≤ (lastG T).n + 1; omega, by show (lastG T).n + 1 ≤ _; omega⟩, ⟨by show _ ≤ (lastG T).z + (pb.size : Int); omega, by show (lastG T).z + (pb.size : Int) ≤ _; have := HPZ.out; omega⟩⟩
    have hgm3 : (grown T.g pb.size).length ≤ maxLen := by
      unfold grown
      rw [List.length_set, HM2.out]
      unfold maxLen
      omega
    have HGO := Lib.hid (And.intro hgm3 hgo)
    clear hgo hgm3
    go_upto_region 17 with (fail)
    generalize w12.setCell _ _ = w13 at HZ2 ⊢
    clear g2 gf hwz
    have G3 := HZ2.out
    have TF := Lib.hid (G3.fin HGO.out.1 HGO.out.2)
    have h22 : w.heap.size + 2 = w.heap.size + 1 + 1 := rfl
    have hq3 := G3.q
    rw [h22] at TF hq3
    obtain ⟨⟨k0, k1, k2, k3, k4⟩, k5, k6, k7, k8, k9, k10⟩ := cellsS G3.d
    obtain ⟨⟨r0, r1, r2, r3, r4⟩, r5, r6, r7, r8, r9, r10⟩ := cellsS hq3
    have kr := frozenS hq3
    dsimp only at k0 k1 k2 k3 k4 k5 k7 k8 k9 k10
    clear G3 hq3 h22
    go_wp2_with fail
    obtain ⟨Z3, hZ3, Z4, Z5⟩ := TF.out
    rw [hZ3]
    obtain ⟨⟨z0, z1, z2, z3, z4⟩, z5, z6, z7, z8, z9, z10⟩ := cellsS Z4
    refine bodyPost_ret (v := .tuple #[stVal (.slice a8 n8 c8) (.slice (some ⟨g3, 0, none⟩) (m2 + 1) cap3) { T with d := XD, g := grown T.g pb.size, x := T.x + 1 }, .int .i64 0]) (by unfold stVal; simp [results, Tryz.results31, go_sem, z0, z1, z2, z3, z4, z5, z6, z7, z8, z9, z10]) rfl ?_
    rw [HRR.out]
    exact ⟨_, _, _, _, _, _, rfl, Z5⟩

end Go.Proofs.YthhhocgpoenigaaGreat.Sto

namespace Go.Proofs.YthhhocgpoenigaaGreat.Sto
open Go.RowKit Go.Proofs.YthhhocgpoenigaaGreat.So Go.Proofs.YthhhocgpoenigaaGreat.Dsk Go.Proofs.YthhhocgpoenigaaGreat.Rts

/-- Where holder stops. -/
structure Hold (l : List Rt.Sg) (o : Int) (i : Nat) : Prop where
  lt : i < l.length
  le : i = 0 ∨ (l.getD i Rt.zero).b ≤ o
  up : ∀ j, i < j → j < l.length → o < (l.getD j Rt.zero).b

set_option maxRecDepth 100000 in
set_option maxHeartbeats 800000 in
theorem holder12_any (gv : Value) (l : List Rt.Sg) (o : Int) (w : World) (hg : IsL SL w gv l) (hn : l ≠ []) (hn2 : l.length ≤ 1000) :
    Calls Tryz.prog 59 #[gv, .int .i64 o] w fun e w' => ∃ i : Nat, e = .returned (.int .i64 i) ∧ Hold l o i ∧ Below w.heap.size w w' := by
  obtain ⟨ga, gn, gc, rfl⟩ : ∃ a n c, gv = .slice a n c := by obtain ⟨a, c, h, _⟩ := hg; exact ⟨a, _, c, h⟩
  have hgl := hg.len.1
  have hpos : 0 < l.length := List.length_pos_iff.2 hn
  have HG := Lib.hid fun (W : World) (b : Below w.heap.size w W) (k : Nat) (hk : k < gn) => sg_at (hg.keep b) hk
  have hw1 : IntKind.i64.wrap ((gn : Int) - 1) = (gn : Int) - 1 := IntWalk.i64_in _ ⟨by omega, by omega⟩
  have HL := Lib.hid hgl
  have HGN := Lib.hid (show 0 < gn ∧ gn ≤ 1000 by omega)
  clear hg hn hn2 hpos hgl
  go_enter Tryz.func59, Tryz.ntmps59
  go_wp2_with fail
  go_loopw [5] (fun i wr => ∃ k : Nat, k < gn ∧ i = .int .i64 k ∧ (∀ j, k < j → j < gn → o < (l.getD j Rt.zero).b) ∧ Below w.heap.size w wr) (fun i _ => (intOf i).toNat)
  case atStart => exact ⟨gn - 1, by have := HGN.out; omega, by congr 1; have := HGN.out; omega, fun j h1 h2 => by omega, Below.refl _ _⟩
  case round =>
    obtain ⟨k, hk, rfl, hup, hb⟩ := hrel
    have HU := Lib.hid hup
    have HB := Lib.hid hb
    have hk1 := HGN.out
    obtain ⟨b, off, rfl, c0, _, _⟩ := HG.out _ hb k hk
    generalize hx : (l.getD k Rt.zero).b = x at c0
    have HX := Lib.hid hx
    clear hup hb hx hw1
    by_cases h0 : k = 0
    · subst h0
      clear hk1
      go_wp2_with fail
      go_ret
      exact ⟨0, rfl, ⟨by rw [← HL.out]; exact hk, .inl rfl, fun j h1 h2 => HU.out j h1 (by rw [HL.out]; exact h2)⟩, HB.out⟩
    · have h1 : (0 : Int) < (k : Int) := by omega
      by_cases h2 : o < x
      · have hw2 : IntKind.i64.wrap ((k : Int) - 1) = (k : Int) - 1 := IntWalk.i64_in _ ⟨by omega, by omega⟩
        have HK := Lib.hid (show k ≠ 0 ∧ k < gn from ⟨h0, hk⟩)
        have H2 := Lib.hid h2
        clear h0 hk1
        go_wp2_with fail
        go_roundw
        case rel =>
          refine ⟨k - 1, by have := HK.out; omega, by congr 1; have := HK.out; omega, fun j h3 h4 => ?_, HB.out⟩
          by_cases h5 : j = k
          · subst h5; rw [HX.out]; exact H2.out
          · exact HU.out j (by omega) h4
        case measure => have := HK.out; simp [intOf]; omega
      · have HK := Lib.hid (show k ≠ 0 ∧ k < gn from ⟨h0, hk⟩)
        have H2 := Lib.hid h2
        clear h0 hk1
        go_wp2_with fail
        go_ret
        exact ⟨k, rfl, ⟨by rw [← HL.out]; exact HK.out.2, .inr (by rw [HX.out]; have := H2.out; omega), fun j h1 h2 => HU.out j h1 (by rw [HL.out]; exact h2)⟩, HB.out⟩

end Go.Proofs.YthhhocgpoenigaaGreat.Sto

namespace Go.Proofs.YthhhocgpoenigaaGreat.So
open Go.Proofs.YthhhocgpoenigaaGreat.Dp

/-- As many of these records as have frames of at most b bytes together. -/
def fit : Nat → List Rp.Rec → List Rp.Rec
  | _, [] => []
  | b, r :: t => if b < (Fr.fr (Rp.body r)).length then [] else r :: fit (b - (Fr.fr (Rp.body r)).length) t
theorem fit_nil (b : Nat) : fit b [] = [] := by cases b <;> rfl
theorem fit_no {b : Nat} {r : Rp.Rec} {t : List Rp.Rec} (h : b < (Fr.fr (Rp.body r)).length) : fit b (r :: t) = [] := by unfold fit; rw [if_pos h]
theorem fit_yes {b : Nat} {r : Rp.Rec} {t : List Rp.Rec} (h : ¬ b < (Fr.fr (Rp.body r)).length) : fit b (r :: t) = r :: fit (b - (Fr.fr (Rp.body r)).length) t := by
  rw [fit.eq_2, if_neg h]
theorem fit_pre : ∀ (m : List Rp.Rec) (b : Nat), ∃ k, k ≤ m.length ∧ fit b m = m.take k
  | [], b => ⟨0, Nat.le_refl _, by rw [fit_nil]; rfl⟩
  | r :: t, b => by
    by_cases h : b < (Fr.fr (Rp.body r)).length
    · exact ⟨0, Nat.zero_le _, by rw [fit_no h]; rfl⟩
    · obtain ⟨k, h1, h2⟩ := fit_pre t (b - (Fr.fr (Rp.body r)).length)
      exact ⟨k + 1, by rw [List.length_cons]; omega, by rw [fit_yes h, h2]; rfl⟩
theorem fit_le : ∀ (m : List Rp.Rec) (b : Nat), (Rp.rowB (fit b m)).length ≤ b
  | [], b => by rw [fit_nil]; exact Nat.zero_le _
  | r :: t, b => by
    by_cases h : b < (Fr.fr (Rp.body r)).length
    · rw [fit_no h]; exact Nat.zero_le _
    · have := fit_le t (b - (Fr.fr (Rp.body r)).length)
      rw [fit_yes h, Rp.rowB_cons, List.length_append]
      omega
theorem fit_all : ∀ (m : List Rp.Rec) (b : Nat), (Rp.rowB m).length ≤ b → fit b m = m
  | [], b, _ => fit_nil b
  | r :: t, b, h => by
    rw [Rp.rowB_cons, List.length_append] at h
    rw [fit_yes (by omega), fit_all t _ (by omega)]
theorem fit_join : ∀ (m m' : List Rp.Rec) (b : Nat), (Rp.rowB m).length ≤ b → fit b (m ++ m') = m ++ fit (b - (Rp.rowB m).length) m'
  | [], m', b, _ => by rw [Rp.rowB_nil]; rfl
  | r :: t, m', b, h => by
    rw [Rp.rowB_cons, List.length_append] at h
    rw [List.cons_append, fit_yes (by omega), fit_join t m' _ (by omega), Rp.rowB_cons, List.length_append, Nat.sub_sub]
    rfl
theorem fit_stop : ∀ (m m' : List Rp.Rec) (b : Nat), b < (Rp.rowB m).length → fit b (m ++ m') = fit b m
  | [], m', b, h => by rw [Rp.rowB_nil] at h; cases h
  | r :: t, m', b, h => by
    by_cases h1 : b < (Fr.fr (Rp.body r)).length
    · rw [List.cons_append, fit_no h1, fit_no h1]
    · rw [Rp.rowB_cons, List.length_append] at h
      rw [List.cons_append, fit_yes h1, fit_yes h1, fit_stop t m' _ (by omega)]
theorem fit_take : ∀ (m : List Rp.Rec) (b n : Nat), fit b (m.take n) = (fit b m).take n
  | [], b, n => by rw [List.take_nil, fit_nil, List.take_nil]
  | r :: t, b, 0 => by rw [List.take_zero, fit_nil, List.take_zero]
  | r :: t, b, n + 1 => by
    rw [List.take_succ_cons]
    by_cases h : b < (Fr.fr (Rp.body r)).length
    · rw [fit_no h, fit_no h, List.take_nil]
    · rw [fit_yes h, fit_yes h, fit_take t, List.take_succ_cons]
/-- What stands in the first bytes of records. -/
theorem row_fit : ∀ (m : List Rp.Rec) (b : Nat), (∀ r ∈ m, Rp.Ok r) → ∃ rest e, (Rp.rowB m).take b = Rp.rowB (fit b m) ++ rest ∧ (rest = [] ∧ e = 0 ∨ rest ≠ [] ∧ Rp.nxt rest = (Rp.zero, 0, e) ∧ e ≠ 0)
  | [], b, _ => ⟨[], 0, by rw [fit_nil, Rp.rowB_nil, List.take_nil]; rfl, .inl ⟨rfl, rfl⟩⟩
  | r :: t, b, hok => by
    by_cases h : b < (Fr.fr (Rp.body r)).length
    · rw [fit_no h, Rp.rowB_nil, Rp.rowB_cons, List.take_append_of_le_length (Nat.le_of_lt h)]
      simp only [List.nil_append]
      rcases Nat.eq_zero_or_pos b with rfl | hb
      · exact ⟨[], 0, rfl, .inl ⟨rfl, rfl⟩⟩
      · refine ⟨_, 2, rfl, .inr ⟨fun e => ?_, Gp.nxt_cut (hok r List.mem_cons_self) h, by decide⟩⟩
        have := congrArg List.length e
        rw [List.length_take, Nat.min_eq_left (Nat.le_of_lt h), List.length_nil] at this
        omega
    · obtain ⟨rest, e, h1, h2⟩ := row_fit t (b - (Fr.fr (Rp.body r)).length) fun x hx => hok x (List.mem_cons_of_mem _ hx)
      refine ⟨rest, e, ?_, h2⟩
      rw [fit_yes h, Rp.rowB_cons, Rp.rowB_cons, List.take_append, List.take_of_length_le (by omega), h1, List.append_assoc]
theorem rise_take : ∀ (m : List Rp.Rec) (b : Int) (k : Nat), Gp.Rise b m → Gp.Rise b (m.take k)
  | [], _, _, _ => by rw [List.take_nil]; trivial
  | _ :: _, _, 0, _ => trivial
  | r :: t, b, k + 1, h => ⟨h.1, rise_take t (b + 1) k h.2⟩
theorem rise_drop : ∀ (m : List Rp.Rec) (b : Int) (k : Nat), Gp.Rise b m → Gp.Rise (b + k) (m.drop k)
  | [], _, _, _ => by rw [List.drop_nil]; trivial
  | r :: t, b, 0, h => by simpa using h
  | r :: t, b, k + 1, h => by
    have := rise_drop t (b + 1) k h.2
    rw [List.drop_succ_cons, show b + ((k + 1 : Nat) : Int) = b + 1 + (k : Int) from by omega]
    exact this
/-- A scan of the first bytes of records: those that fit. -/
theorem full_fit {m : List Rp.Rec} {b : Int} (hok : ∀ r ∈ m, Rp.Ok r) (hr : Gp.Rise b m) (h0 : 0 ≤ b) (h1 : b ≤ 1099511627776) (n : Nat) : ∃ e, Gp.full ((Rp.rowB m).take n) b = (Gp.withAt (fit n m) 0, (Rp.rowB (fit n m)).length, e) := by
  obtain ⟨rest, e, e1, e2⟩ := row_fit m n hok
  obtain ⟨k, _, e3⟩ := fit_pre m n
  have := Gp.pls_rows (fit n m) b 0 rest e (fun r hr => hok r (by rw [e3] at hr; exact List.mem_of_mem_take hr)) (by rw [e3]; exact rise_take m b k hr) e2
  refine ⟨e, ?_⟩
  rw [e1, Gp.full_in (Rp.inB_mk h0 h1), List.drop_zero, this, Nat.zero_add]

/-- Where the records of each segment lie. -/
structure At (S : St) (rs : List Rp.Rec) (i : Nat) : Prop where
  b0 : 0 ≤ (S.g.getD i Rt.zero).b
  n0 : 0 ≤ (S.g.getD i Rt.zero).n
  le : (S.g.getD i Rt.zero).b + (S.g.getD i Rt.zero).n ≤ rs.length
  dat : dat S.d (segN (S.g.getD i Rt.zero).b) = some (Rp.rowB ((rs.drop (S.g.getD i Rt.zero).b.toNat).take (S.g.getD i Rt.zero).n.toNat))
  nx : i + 1 < S.g.length → (S.g.getD (i + 1) Rt.zero).b = (S.g.getD i Rt.zero).b + (S.g.getD i Rt.zero).n ∧ 0 < (S.g.getD i Rt.zero).n
  fin : i + 1 = S.g.length → (S.g.getD i Rt.zero).b + (S.g.getD i Rt.zero).n = rs.length
theorem Fulls.at_ {D : Dk} {q : Int} : ∀ {t : List Rt.Sg} {b : Int} {rs : List Rp.Rec} (pre : List Rp.Rec) (post : List Rp.Rec) (g : Rt.Sg), Fulls D q t b rs → 0 ≤ b → b = (pre.length : Int) → g.b = b + rs.length → ∀ i, i < t.length →
    0 ≤ (t.getD i Rt.zero).b ∧ 0 < (t.getD i Rt.zero).n ∧ (t.getD i Rt.zero).b + (t.getD i Rt.zero).n ≤ b + rs.length ∧ dat D (segN (t.getD i Rt.zero).b) = some (Rp.rowB (((pre ++ (rs ++ post)).drop (t.getD i Rt.zero).b.toNat).take (t.getD i Rt.zero).n.toNat)) ∧ ((t ++ [g]).getD (i + 1) Rt.zero).b = (t.getD i Rt.zero).b + (t.getD i Rt.zero).n
  | [], b, rs, pre, post, g, h, _, _, _, i, hi => by cases hi
  | a :: t, b, rs, pre, post, g, ⟨a1, l, r, a2, a3, a4, a5, a6, a7, a8, a9⟩, h0, hp, hg, 0, _ => by
    have hl : 0 < l.length := List.length_pos_iff.2 a3
    subst a2
    rw [List.length_append] at hg ⊢
    simp only [List.getD_cons_zero]
    refine ⟨by omega, by omega, by omega, ?_, ?_⟩
    · rw [a1, a5, a4, hp]
      congr 2
      rw [Int.toNat_natCast, Int.toNat_natCast, List.drop_left' rfl, List.append_assoc, List.take_left' rfl]
    · rw [List.cons_append, List.getD_cons_succ, a4, a1]
      cases t with
      | nil =>
        obtain rfl : r = [] := a9
        simp only [List.nil_append, List.getD_cons_zero]
        simp at hg
        omega
      | cons c t =>
        rw [List.cons_append, List.getD_cons_zero, a9.1, a4]
  | a :: t, b, rs, pre, post, g, ⟨a1, l, r, a2, a3, a4, a5, a6, a7, a8, a9⟩, h0, hp, hg, i + 1, hi => by
    subst a2
    rw [List.length_append] at hg ⊢
    have := a9.at_ (pre ++ l) post g (by omega) (by rw [a4, List.length_append]; omega) (by omega) i (by simpa using hi)
    rw [List.getD_cons_succ, List.cons_append, List.getD_cons_succ]
    obtain ⟨c1, c2, c3, c4, c5⟩ := this
    refine ⟨c1, c2, by omega, ?_, c5⟩
    rw [c4, List.append_assoc, List.append_assoc]
theorem Inv.at_ {q : Int} {S : St} {rs : List Rp.Rec} (h : Inv q S rs) {i : Nat} (hi : i < S.g.length) : At S rs i := by
  obtain ⟨t, g, l, r, e1, e2, e3, e4, e5, e6, e7, e8⟩ := h.seg
  have hlen : rs.length = l.length + r.length := by rw [e2, List.length_append]
  rw [e1, List.length_append, List.length_singleton] at hi
  by_cases ht : i < t.length
  · obtain ⟨c1, c2, c3, c4, c5⟩ := e3.at_ [] r g (Int.le_refl _) rfl (by omega) i ht
    have e : S.g.getD i Rt.zero = t.getD i Rt.zero := by rw [e1]; simp [List.getD_eq_getElem?_getD, List.getElem?_append_left ht]
    rw [List.nil_append, ← e2] at c4
    refine ⟨by rw [e]; exact c1, by rw [e]; omega, by rw [e]; omega, by rw [e]; exact c4, fun _ => ⟨by rw [e, ← c5, e1], by rw [e]; exact c2⟩, fun h => ?_⟩
    rw [e1, List.length_append, List.length_singleton] at h
    omega
  · obtain rfl : i = t.length := by omega
    have e : S.g.getD t.length Rt.zero = g := by rw [e1]; simp [List.getD_eq_getElem?_getD]
    refine ⟨by rw [e]; omega, by rw [e]; omega, by rw [e]; omega, ?_, fun h => ?_, fun _ => by rw [e]; omega⟩
    · rw [e, e6, e4, e5, Int.toNat_natCast, Int.toNat_natCast, e2, List.drop_left' rfl, List.take_of_length_le (Nat.le_refl _)]
    · rw [e1, List.length_append, List.length_singleton] at h
      omega
theorem Inv.base0 {q : Int} {S : St} {rs : List Rp.Rec} (h : Inv q S rs) : floor S = 0 ∧ (S.g.getD 0 Rt.zero).b = 0 ∧ 0 < S.g.length := by
  obtain ⟨t, g, l, r, e1, e2, e3, e4, e5, e6, e7, e8⟩ := h.seg
  have : (S.g.getD 0 Rt.zero).b = 0 ∧ 0 < S.g.length := by
    rw [e1]
    cases t with
    | nil =>
      obtain rfl : l = [] := e3
      exact ⟨by simpa using e4, by simp⟩
    | cons a t => exact ⟨by rw [List.cons_append, List.getD_cons_zero]; exact e3.1, by simp⟩
  refine ⟨?_, this⟩
  unfold floor
  rw [← this.1]
  cases hg : S.g with
  | nil => rw [hg] at this; cases this.2
  | cons a t => rfl

end Go.Proofs.YthhhocgpoenigaaGreat.So

namespace Go.Proofs.YthhhocgpoenigaaGreat.Sto
open Go.RowKit Go.Proofs.YthhhocgpoenigaaGreat.So

theorem rowB_append : ∀ (a b : List Rp.Rec), Rp.rowB (a ++ b) = Rp.rowB a ++ Rp.rowB b
  | [], b => by rw [Rp.rowB_nil]; rfl
  | r :: a, b => by rw [List.cons_append, Rp.rowB_cons, rowB_append a b, Rp.rowB_cons, List.append_assoc]
theorem row_drop (m : List Rp.Rec) (j : Nat) : (Rp.rowB m).drop (Rp.rowB (m.take j)).length = Rp.rowB (m.drop j) := by
  conv => lhs; rw [← List.take_append_drop j m, rowB_append]
  rw [List.take_append_drop, List.drop_left' rfl]
/-- A frame among records: its length, told by its first bytes. -/
theorem frame_at {m : List Rp.Rec} (hok : ∀ r ∈ m, Rp.Ok r) {j : Nat} (hj : j < m.length) :
    ∃ n i : Nat, Vp.take ((Rp.rowB m).drop (Rp.rowB (m.take j)).length) = some (n, i) ∧ 1 ≤ n ∧ n ≤ 76 ∧ ((putI (n : Int)).length : Int) + 4 + n = ((Rp.rowB (m.take (j + 1))).length : Int) - ((Rp.rowB (m.take j)).length : Int) ∧ (Rp.rowB (m.take j)).length + i ≤ 1000 + (Rp.rowB m).length := by
  have hr := hok _ (List.getElem_mem hj)
  have hb := Rp.body_le hr
  have hm := Rp.body_may hr
  refine ⟨(Rp.body m[j]).length, (Vp.put (Rp.body m[j]).length).length, ?_, hm.1, hb, ?_, ?_⟩
  · rw [row_drop, List.drop_eq_getElem_cons hj, Rp.rowB_cons]
    unfold Fr.fr
    rw [List.append_assoc, List.append_assoc]
    exact Vp.take_put _ _ (by omega)
  · rw [List.take_succ_eq_append_getElem hj, Rp.rowB_snoc, List.length_append, Fr.fr_len]
    unfold putI
    rw [if_neg (by omega), Int.toNat_natCast]
    omega
  · have h1 := congrArg List.length (rowB_append (m.take j) (m.drop j))
    rw [List.take_append_drop, List.length_append] at h1
    have := Vp.put_len_le (Rp.body m[j]).length
    omega

end Go.Proofs.YthhhocgpoenigaaGreat.Sto

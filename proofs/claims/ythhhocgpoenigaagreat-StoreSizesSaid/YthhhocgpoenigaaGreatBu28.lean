/-
  Parts of what the laws of this seat stand on: StoRll.
-/
import Derived.Test.YthhhocgpoenigaaGreatBu17
import Derived.Test.YthhhocgpoenigaaGreatBu26
import Derived.Test.YthhhocgpoenigaaGreatBu27
namespace Go.Proofs.YthhhocgpoenigaaGreat.Sto
open Go.RowKit Go.Proofs.YthhhocgpoenigaaGreat.So Go.Proofs.YthhhocgpoenigaaGreat.Dsk Go.Proofs.YthhhocgpoenigaaGreat.Rts

def stO (fv gv : Value) (S : St) : Obj := .cells #[fv, .int .i64 S.d.c, .bool S.d.a, .int .i64 S.d.l, .bool S.d.x, .int .i64 S.v, gv, .int .i64 S.x, .int .i64 S.s, .int .i64 S.z, .int .u32 S.c] 31

section
variable {W W' : World} {x y : Value}
theorem Pq.st1' {k i j : Nat} (h : W.cell? ⟨k, i, none⟩ = some x ∧ W.cell? ⟨k, j, none⟩ = some y) {t o : Nat} {v : Value} (h1 : k ≠ t) : (W.setCell ⟨t, o, none⟩ v).cell? ⟨k, i, none⟩ = some x ∧ (W.setCell ⟨t, o, none⟩ v).cell? ⟨k, j, none⟩ = some y :=
  ⟨by rw [World.cell?_setCell_other _ _ _ _ (fun e => h1 (by injection e with e; exact e.symm))]; exact h.1, by rw [World.cell?_setCell_other _ _ _ _ (fun e => h1 (by injection e with e; exact e.symm))]; exact h.2⟩
end

set_option maxRecDepth 100000 in
set_option maxHeartbeats 6400000 in
theorem roll12_any (fa ga : Option Addr) (fn fc gn gc : Nat) (S : St) (w : World) (k : Nat) (hv : IsL FL w (.slice fa fn fc) S.d.f) (hg : IsL SL w (.slice ga gn gc) S.g) (hn : S.g ≠ []) (hB : Stb S) (hS : Bd S.d k) (hk : k ≤ 80000) (hx : 0 ≤ S.x ∧ S.x ≤ 1099511627776) (hver : S.v < 1152921504606846976) :
    Calls Tryz.prog 66 #[stVal (.slice fa fn fc) (.slice ga gn gc) S] w (StOut w (.slice fa fn fc) (.slice ga gn gc) (roll S)) := by
  have M0 := ((Ms.start hv hg).alloc #[.slice fa fn fc, .int .i64 S.d.c, .bool S.d.a, .int .i64 S.d.l, .bool S.d.x, .int .i64 S.v, .slice ga gn gc, .int .i64 S.x, .int .i64 S.s, .int .i64 S.z, .int .u32 S.c] 31).alloc #[.slice none 0 0, .int .i64 0, .bool false, .int .i64 0, .bool false, .int .i64 0, .slice none 0 0, .int .i64 0, .int .i64 0, .int .i64 0, .int .u32 0] 31
  simp only [World.size_alloc] at M0
  have HM0 := Lib.hid M0
  have HRL := roll_p S
  unfold rollP at HRL
  dsimp only at HRL
  have hgl := hg.len.1
  have hn2 := hB.n
  by_cases h64 : 64 ≤ S.g.length
  · rw [if_pos h64] at HRL
    replace HRL := Lib.hid HRL
    have h64' : (64 : Int) ≤ (gn : Int) := by omega
    clear hv hg hn hB hS hx hver hgl hn2 h64 M0
    unfold stVal
    go_enter Tryz.func66, Tryz.ntmps66
    go_upto_region 1 with (fail)
    generalize World.alloc (World.alloc w _) _ = w0 at HM0 ⊢
    obtain ⟨⟨p0, p1, p2, p3, p4⟩, p5, p6, p7, p8, p9, p10⟩ := cellsS (HM0.out.at_ (List.mem_cons_of_mem _ List.mem_cons_self))
    obtain ⟨⟨q0, q1, q2, q3, q4⟩, q5, q6, q7, q8, q9, q10⟩ := cellsS (HM0.out.at_ List.mem_cons_self)
    have qf := frozenS (HM0.out.at_ List.mem_cons_self)
    go_wp2_with fail
    obtain ⟨Z, hZ, M9⟩ := HM0.out.lay11 (cs' := [(w.heap.size + 1, stO (.slice fa fn fc) (.slice ga gn gc) S)]) List.mem_cons_self (.slice fa fn fc) (.int .i64 S.d.c) (.bool S.d.a) (.int .i64 S.d.l) (.bool S.d.x) (.int .i64 S.v) (.slice ga gn gc) (.int .i64 S.x) (.int .i64 S.s) (.int .i64 S.z) (.int .u32 S.c) (fun p hp => by
      simp only [List.mem_cons, List.not_mem_nil, or_false] at hp
      subst hp
      exact .inl rfl)
    rw [hZ]
    obtain ⟨⟨z0, z1, z2, z3, z4⟩, z5, z6, z7, z8, z9, z10⟩ := cellsS (M9.at_ List.mem_cons_self)
    refine bodyPost_ret (v := .tuple #[stVal (.slice fa fn fc) (.slice ga gn gc) S, .int .i64 9]) (by unfold stVal; simp [results, Tryz.results66, go_sem, z0, z1, z2, z3, z4, z5, z6, z7, z8, z9, z10]) rfl ?_
    rw [HRL.out]
    exact ⟨_, _, _, _, _, _, rfl, M9.sts (T := S) List.mem_cons_self List.mem_cons_self⟩
  rw [if_neg h64] at HRL
  -- what the steps make
  have CS := Lib.hid fun (W : World) (h1 : IsL FL W (.slice fa fn fc) S.d.f) (h2 : IsL SL W (.slice ga gn gc) S.g) => sync12_any fa ga fn fc gn gc S W k h1 h2 hn hB hS (by omega)
  obtain ⟨⟨T, E0⟩, hT⟩ : ∃ R, syncT S = R := ⟨_, rfl⟩
  obtain ⟨t1, t2, t3, t4, t5, t6, t7⟩ := syncT_facts S hS hT
  rw [hT] at CS HRL
  dsimp only at HRL
  have c1 := bd_tk (X := (T.d, E0)) t1 (bd_create t1 (segN T.x))
  obtain ⟨X1, hX1⟩ : ∃ X, tk (T.d, E0) (Dp.create T.d (segN T.x)) = X := ⟨_, rfl⟩
  rw [hX1] at HRL c1
  have hman : ∀ D D' : Dp.Dk, man (more T D) = man (more T D') := fun _ _ => rfl
  obtain ⟨m, hm⟩ : ∃ m, man (more T T.d) = m := ⟨_, rfl⟩
  rw [hman X1.1 T.d, hm] at HRL
  obtain ⟨X2, hX2⟩ : ∃ X, tk X1 (swap X1.1 m) = X := ⟨_, rfl⟩
  have c2 : Bd X2.1 (k + 8) := by
    rw [← hX2]
    unfold tk
    split
    · exact (bd_swap c1 m).mono (by omega)
    · exact c1.mono (by omega)
  rw [hX2] at HRL
  have MB : Mfs.MnB m := by rw [← hm]; exact man_more (by have := hB.v; omega) (by rw [t5]; exact hB.z) (by rw [t6]; exact hB.c)
  have hB' := hB
  have SB : Stb (more T T.d) := by
    refine ⟨bd_sm3 t1 (by omega), ?_, ?_, ?_, ?_, ?_, ?_, ?_⟩
    · show 0 ≤ T.v + 1 ∧ T.v + 1 ≤ 1152921504606846976
      have := hB'.v; omega
    · show (T.g ++ [_]).length ≤ 1000
      rw [List.length_append, t2]; simp; omega
    · intro g hg
      rcases List.mem_append.1 (show g ∈ T.g ++ [⟨T.x, 0, 0⟩] from hg) with hg | hg
      · exact hB'.g g (by rw [← t2]; exact hg)
      · rw [List.mem_singleton] at hg
        subst hg
        exact ⟨⟨by show 0 ≤ T.x; omega, by show T.x ≤ _; omega⟩, ⟨by show (0 : Int) ≤ 0; omega, by show (0 : Int) ≤ 1152921504606846976; omega⟩, ⟨by show (0 : Int) ≤ 0; omega, by show (0 : Int) ≤ 1152921504606846976; omega⟩⟩
    · show 0 ≤ T.x ∧ T.x ≤ 1152921504606846976
      omega
    · show 0 ≤ T.s ∧ T.s ≤ 1152921504606846976
      have := hB'.s; omega
    · show 0 ≤ T.z ∧ T.z ≤ 1152921504606846976
      rw [t5]; exact hB'.z
    · show 0 ≤ T.c ∧ T.c < 4294967296
      rw [t6]; exact hB'.c
  have HF := Lib.hid fun (fv gv : Value) (W : World) (h : IsL SL W gv (more T T.d).g) => file12_any fv gv (more T T.d) W h (by show T.g ++ [_] ≠ []; simp) (fun g hg => (SB.g g hg).1) SB.n
  have hlast : lastG (more T T.d) = ⟨T.x, 0, 0⟩ := by
    unfold lastG more
    dsimp only
    exact getD_last _ _ _
  rw [hlast] at HF
  have MN := Lib.hid fun (fv gv : Value) (W : World) (h : IsL SL W gv (more T T.d).g) => man12_any fv gv (more T T.d) W h SB
  rw [hm] at MN
  have HC := Lib.hid (And.intro t1 (And.intro c1 c2))
  have HX1 := Lib.hid hX1
  have HX2 := Lib.hid hX2
  have HMB := Lib.hid MB
  have HSZ := Lib.hid (show (segN T.x).size ≤ 3000 from seg_size (by omega))
  replace HRL := Lib.hid HRL
  have HGO := Lib.hid (show ∀ g ∈ T.g ++ [⟨T.x, 0, 0⟩], SL.ok g from fun g hg => by
    obtain ⟨⟨a, b⟩, ⟨c, d⟩, e, f⟩ := SB.g g hg
    exact ⟨⟨by omega, by omega⟩, ⟨by omega, by omega⟩, ⟨by omega, by omega⟩⟩)
  have HGN := Lib.hid (show T.g.length = gn ∧ gn < 64 by rw [t2]; omega)
  have h64' : ¬ (64 : Int) ≤ (gn : Int) := by omega
  have hwv : IntKind.i64.wrap (T.v + 1) = T.v + 1 := IntWalk.i64_in _ ⟨by have := hB.v; omega, by omega⟩
  clear hv hg hn hB hB' hS hx hver hgl hn2 h64 M0 hT hX1 hX2 hm hman t1 t2 t3 t4 t5 t6 t7 c1 c2 MB SB hlast
  unfold stVal at CS HF MN ⊢
  unfold more at HF MN
  dsimp only at HF MN
  go_enter Tryz.func66, Tryz.ntmps66
  go_upto_region 1 with (fail)
  generalize World.alloc (World.alloc w _) _ = w0 at HM0 ⊢
  obtain ⟨⟨p0, p1, p2, p3, p4⟩, p5, p6, p7, p8, p9, p10⟩ := cellsS (HM0.out.at_ (List.mem_cons_of_mem _ List.mem_cons_self))
  go_wp2_with fail
  refine (CS.out _ (HM0.out.fl List.mem_cons_self) (HM0.out.sl List.mem_cons_self)).mono ?_
  rintro en w1 ⟨a1, n1, c1, a2, n2, c2, rfl, ss⟩
  have M1 := HM0.out.call2 (T := T) List.mem_cons_self List.mem_cons_self ss
  have hlt := M1.lt (t := w.heap.size) (List.mem_cons_of_mem _ List.mem_cons_self)
  have M2 := M1.alloc #[.int .i64 0] 32
  have HM2 := Lib.hid M2
  clear ss CS p0 p1 p2 p3 p4 p5 p6 p7 p8 p9 p10 M1
  obtain ⟨⟨p0, p1, p2, p3, p4⟩, p5, p6, p7, p8, p9, p10⟩ := cellsS (M2.at_ (t := w.heap.size) (List.mem_cons_of_mem _ (List.mem_cons_of_mem _ List.mem_cons_self)))
  have pf := frozenS (M2.at_ (t := w.heap.size) (List.mem_cons_of_mem _ (List.mem_cons_of_mem _ List.mem_cons_self)))
  obtain ⟨e0, ef⟩ := cells1 (M2.at_ List.mem_cons_self)
  have ne1 : ¬ (w1.heap.size = w.heap.size) := by omega
  have ne2 : ¬ (w.heap.size = w1.heap.size) := by omega
  clear M2 hlt
  unfold stVal
  go_upto_region 4 with (fail)
  obtain ⟨Z3, hZ3, M3⟩ := HM2.out.lay11 (cs' := [(w.heap.size, stO (.slice a1 n1 c1) (.slice a2 n2 c2) T), (w1.heap.size, .cells #[.int .i64 0] 32), (w.heap.size + 1, z11)]) (t := w.heap.size) (List.mem_cons_of_mem _ (List.mem_cons_of_mem _ List.mem_cons_self)) (.slice a1 n1 c1) (.int .i64 T.d.c) (.bool T.d.a) (.int .i64 T.d.l) (.bool T.d.x) (.int .i64 T.v) (.slice a2 n2 c2) (.int .i64 T.x) (.int .i64 T.s) (.int .i64 T.z) (.int .u32 T.c) (fun p hp => by
    simp only [List.mem_cons, List.not_mem_nil, or_false] at hp
    rcases hp with rfl | rfl | rfl
    · exact .inl rfl
    · exact .inr ⟨List.mem_cons_self, ne1⟩
    · exact .inr ⟨List.mem_cons_of_mem _ List.mem_cons_self, by show w.heap.size + 1 ≠ w.heap.size; omega⟩)
  have ne3 := HM2.out.lt (t := w.heap.size + 1) (List.mem_cons_of_mem _ List.mem_cons_self)
  have ne4 : w.heap.size + 1 < w1.heap.size := by
    rcases Nat.lt_or_ge (w.heap.size + 1) w1.heap.size with h | h
    · exact h
    · have h1 := HM2.out.at_ (List.mem_cons_self)
      have h2 := HM2.out.at_ (t := w.heap.size + 1) (List.mem_cons_of_mem _ List.mem_cons_self)
      rw [World.size_alloc] at ne3
      rw [show w.heap.size + 1 = w1.heap.size by omega, h1] at h2
      injection h2 with h2
      injection h2 with h2 h3
      exact absurd (congrArg Array.size h2) (by decide)
  obtain ⟨w2, hw2, M4⟩ := M3.lay1 (cs' := [(w.heap.size, stO (.slice a1 n1 c1) (.slice a2 n2 c2) T), (w1.heap.size, .cells #[.int .i64 E0] 32), (w.heap.size + 1, z11)]) (t := w1.heap.size) (List.mem_cons_of_mem _ List.mem_cons_self) 0 (.int .i64 E0) (fun p hp => by
    simp only [List.mem_cons, List.not_mem_nil, or_false] at hp
    rcases hp with rfl | rfl | rfl
    · exact .inr ⟨List.mem_cons_self, ne2⟩
    · exact .inl rfl
    · exact .inr ⟨List.mem_cons_of_mem _ (List.mem_cons_of_mem _ List.mem_cons_self), by show w.heap.size + 1 ≠ w1.heap.size; omega⟩)
  rw [hZ3, hw2]
  obtain ⟨e, he⟩ : ∃ e, w1.heap.size = e := ⟨_, rfl⟩
  rw [he] at M4 ne4 ⊢
  have M5 := M4.sub (cs' := _) (fs' := [(.slice a1 n1 c1, T.d.f)]) (gs' := [(.slice a2 n2 c2, T.g)]) (fun _ h => h) (fun p hp => by rw [List.mem_singleton] at hp; rw [hp]; exact List.mem_cons_self) (fun p hp => by rw [List.mem_singleton] at hp; rw [hp]; exact List.mem_cons_self)
  have HM5 := Lib.hid M5
  have HNE := Lib.hid ne4
  clear hZ3 hw2 M3 M4 ne1 ne2 ne3 he p0 p1 p2 p3 p4 p5 p6 p7 p8 p9 p10 pf e0 ef HM2
  obtain ⟨⟨p0, p1, p2, p3, p4⟩, p5, p6, p7, p8, p9, p10⟩ := cellsS (M5.at_ List.mem_cons_self)
  have plt := M5.lt List.mem_cons_self
  clear M5 ne4
  go_upto_region 6 with (fail)
  have M6 := HM5.out.alloc #[.slice a1 n1 c1, .int .i64 T.d.c, .bool T.d.a, .int .i64 T.d.l, .bool T.d.x, .int .i64 (T.v + 1), .slice a2 n2 c2, .int .i64 T.x, .int .i64 T.s, .int .i64 T.z, .int .u32 T.c] 31
  obtain ⟨x, hx⟩ : ∃ x, w2.heap.size = x := ⟨_, rfl⟩
  rw [hx] at M6 plt ⊢
  generalize w2.alloc _ = w6 at M6 ⊢
  have HM6 := Lib.hid M6
  have HNX := Lib.hid (show w.heap.size < x ∧ e < x ∧ w.heap.size + 1 < x from ⟨plt, by rw [← hx]; exact HM5.out.lt (List.mem_cons_of_mem _ List.mem_cons_self), by rw [← hx]; exact HM5.out.lt (List.mem_cons_of_mem _ (List.mem_cons_of_mem _ List.mem_cons_self))⟩)
  clear p0 p1 p2 p3 p4 p5 p6 p7 p8 p9 p10 plt hx HM5
  have P6 := Lib.hid (show w6.cell? ⟨w.heap.size, 6, none⟩ = some (.slice a2 n2 c2) ∧ w6.cell? ⟨w.heap.size, 7, none⟩ = some (.int .i64 T.x) from by
    obtain ⟨⟨p0, p1, p2, p3, p4⟩, p5, p6, p7, p8, p9, p10⟩ := cellsS (M6.at_ (t := w.heap.size) (List.mem_cons_of_mem _ List.mem_cons_self))
    exact ⟨p6, p7⟩)
  clear M6
  go_cut [] (fun wd => ∃ a n c, Ms w w.heap.size (.slice fa fn fc) (.slice ga gn gc) [(x, stO (.slice a1 n1 c1) (.slice a n c) (more T T.d)), (w.heap.size, stO (.slice a1 n1 c1) (.slice a2 n2 c2) T), (e, .cells #[.int .i64 E0] 32), (w.heap.size + 1, z11)] [(.slice a1 n1 c1, T.d.f)] [(.slice a n c, T.g ++ [⟨T.x, 0, 0⟩]), (.slice a2 n2 c2, T.g)] wd)
  case first =>
    have h0 : (fun W : World => W.cell? ⟨w.heap.size, 6, none⟩ = some (.slice a2 n2 c2) ∧ W.cell? ⟨w.heap.size, 7, none⟩ = some (.int .i64 T.x)) w6.drew := P6.out
    refine region_plain (by kernel_rfl) (fun W : World => W.cell? ⟨w.heap.size, 6, none⟩ = some (.slice a2 n2 c2) ∧ W.cell? ⟨w.heap.size, 7, none⟩ = some (.int .i64 T.x)) 10 rfl #[false, false, false, false, false, false, false, false, false, false] rfl ?_
    refine wpAnyH_take (i := 0) (v := .pointer (some ⟨w.heap.size, 6, none⟩)) rfl (by kernel_rfl) (by kernel_rfl) (by kernel_rfl) (fun _ _ _ h => h) (Or.inl ⟨by rfl, fun W' hS => ?_⟩) h0 ?_
    · go_simp
    simp only [Act.put, List.setIfInBounds_toArray, List.set_cons_zero, List.set_cons_succ, List.getElem_toArray, List.getElem_cons_zero]
    refine wpAnyH_take (i := 1) (v := .slice a2 n2 c2) rfl (by kernel_rfl) (by kernel_rfl) (by kernel_rfl) (fun _ _ _ h => h) (Or.inl ⟨by rfl, fun W' hS => ?_⟩) h0 ?_
    · have c := hS.1; go_simp
    simp only [Act.put, List.setIfInBounds_toArray, List.set_cons_zero, List.set_cons_succ, List.getElem_toArray, List.getElem_cons_succ, List.getElem_cons_zero]
    refine wpAnyH_take (i := 3) (v := .pointer (some ⟨w.heap.size, 7, none⟩)) rfl (by kernel_rfl) (by kernel_rfl) (by kernel_rfl) (fun _ _ _ h => h) (Or.inl ⟨by rfl, fun W' hS => ?_⟩) h0 ?_
    · go_simp
    simp only [Act.put, List.setIfInBounds_toArray, List.set_cons_zero, List.set_cons_succ, List.getElem_toArray, List.getElem_cons_succ, List.getElem_cons_zero]
    refine wpAnyH_take (i := 4) (v := .int .i64 T.x) rfl (by kernel_rfl) (by kernel_rfl) (by kernel_rfl) (fun _ _ _ h => h) (Or.inl ⟨by rfl, fun W' hS => ?_⟩) h0 ?_
    · have c := hS.2; go_simp
    simp only [Act.put, List.setIfInBounds_toArray, List.set_cons_zero, List.set_cons_succ, List.getElem_toArray, List.getElem_cons_succ, List.getElem_cons_zero]
    refine wpAnyH_take (i := 5) (v := .agg #[.int .i64 T.x, .int .i64 0, .int .i64 0]) rfl (by kernel_rfl) (by kernel_rfl) (by kernel_rfl) (fun _ _ _ h => h) (Or.inl ⟨by rfl, fun W' hS => ?_⟩) h0 ?_
    · go_simp
    simp only [Act.put, List.setIfInBounds_toArray, List.set_cons_zero, List.set_cons_succ, List.getElem_toArray, List.getElem_cons_succ, List.getElem_cons_zero]
    have CLN := Lib.hid fun (W : World) (b : Below w6.heap.size w6 W) => sgclone_any (.slice a2 n2 c2) T.g W ((HM6.out.keep b).sl List.mem_cons_self) (by have := HGN.out; omega)
    have bd : Below w6.heap.size w6 w6.drew := (Below.refl _ _).drew
    have bsz : ∀ {W : World}, Below w6.heap.size w6 W → w6.heap.size ≤ W.heap.size := fun b => b.size
    have HS := Lib.hid fun (W : World) (b : Below w6.heap.size w6 W) => (show W.cell? ⟨w.heap.size, 6, none⟩ = some (.slice a2 n2 c2) ∧ W.cell? ⟨w.heap.size, 7, none⟩ = some (.int .i64 T.x) from ⟨(b.cell (p := ⟨w.heap.size, 6, none⟩) (block_lt_of_cell P6.out.1)).trans P6.out.1, (b.cell (p := ⟨w.heap.size, 7, none⟩) (block_lt_of_cell P6.out.2)).trans P6.out.2⟩)
    obtain ⟨i0, hi0, hz0, hz1, hz2⟩ := info_parts info_sg
    refine wpAnyH_ready (rs := [2, 6]) (by kernel_rfl) (by simp) (AllReadyH.cons rfl (fun K hK => ?_) (AllReadyH.cons rfl (fun K hK => ?_) AllReadyH.nil))
    replace hK := Lib.hid hK
    go_simp
    refine (CLN.out _ bd).mono ?_
    rintro en w7 ⟨v, rfl, ho, b7⟩
    dsimp only
    have b67 : Below w6.heap.size w6 w7 := bd.trans (b7.mono (bsz bd))
    refine hK.out _ _ (HS.out _ b67) (fun _ => ?_)
    clear hK K
    simp only [List.setIfInBounds_toArray, List.set_cons_zero, List.set_cons_succ]
    refine wpAnyH_ready (rs := [6]) (by kernel_rfl) (by simp) (AllReadyH.cons rfl (fun K hK => ?_) AllReadyH.nil)
    replace hK := Lib.hid hK
    go_simp
    have b68 : Below w6.heap.size w6 (w7.alloc (.cells #[.int .i64 T.x, .int .i64 0, .int .i64 0] 65)) := b67.alloc (bsz b67) _
    refine hK.out _ _ (HS.out _ b68) (fun _ => ?_)
    clear hK K
    have HO := Lib.hid (show OwnL SL (w7.alloc (.cells #[.int .i64 T.x, .int .i64 0, .int .i64 0] 65)) w6.heap.size v T.g from (own_base ho (bsz bd)).alloc _)
    have HNEW := Lib.hid (news_new w7 w7.heap.size [.int .i64 T.x, .int .i64 0, .int .i64 0] 65 rfl)
    generalize w7.heap.size = blk at HNEW ⊢
    generalize w7.alloc _ = w8 at b68 HO HNEW ⊢
    clear b7 b67 ho
    rotate_left
    replace hK := Lib.hid hK
    go_simp
    have b67 : Below w6.heap.size w6 (w6.drew.alloc (.cells #[.int .i64 T.x, .int .i64 0, .int .i64 0] 65)) := bd.alloc (bsz bd) _
    refine hK.out _ _ (HS.out _ b67) (fun _ => ?_)
    clear hK K
    simp only [List.setIfInBounds_toArray, List.set_cons_zero, List.set_cons_succ]
    refine wpAnyH_ready (rs := [2]) (by kernel_rfl) (by simp) (AllReadyH.cons rfl (fun K hK => ?_) AllReadyH.nil)
    replace hK := Lib.hid hK
    go_simp
    refine (CLN.out _ b67).mono ?_
    rintro en w8 ⟨v, rfl, ho, b7⟩
    dsimp only
    have b68 : Below w6.heap.size w6 w8 := b67.trans (b7.mono (bsz b67))
    refine hK.out _ _ (HS.out _ b68) (fun _ => ?_)
    clear hK K
    have HO := Lib.hid (show OwnL SL w8 w6.heap.size v T.g from own_base ho (bsz b67))
    have HNEW := Lib.hid (show ∀ (j : Nat) (u : Value), [Value.int .i64 T.x, .int .i64 0, .int .i64 0][j]? = some u → w8.cell? ((⟨w6.heap.size, 0, none⟩ : Addr).add j) = some u from fun j u hj => by
      have h := news_new w6.drew w6.heap.size [.int .i64 T.x, .int .i64 0, .int .i64 0] 65 rfl j u hj
      rw [addr_plain] at h ⊢
      exact (b7.cell (p := ⟨w6.heap.size, _, none⟩) (block_lt_of_cell h)).trans h)
    generalize w6.heap.size = blk at HNEW ⊢
    clear b7 b67 ho
    all_goals
      simp only [List.setIfInBounds_toArray, List.set_cons_zero, List.set_cons_succ]
      have hown := HO.out
      unfold OwnL at hown
      rw [HGN.out.1] at hown
      have hgn := HGN.out.2
      refine wpAnyH_ready (rs := [7]) (by kernel_rfl) (by simp) (AllReadyH.cons rfl (fun K hK => ?_) AllReadyH.nil)
      replace hK := Lib.hid hK
      refine step_append_ownL rfl (.tmp 24) (.tmp 28) 28 rfl w6.heap.size 65 i0 (.agg #[.int .i64 0, .int .i64 0, .int .i64 0]) 3 24 Tryz.underlying28 hi0 hz0 hz1 hz2 rfl (by decide) v gn _ (by simp [Act.eval]) hown ⟨blk, 0, none⟩ 1 1 [.int .i64 T.x, .int .i64 0, .int .i64 0] (by simp [Act.eval]) rfl HNEW.out (by simp [Value.oneCell']) (by unfold maxLen; omega) (by omega) b68.size ?_
      rintro v9 w9 ho9 hg9
      have b69 : Below w6.heap.size w6 w9 := b68.grown hg9 b68.size (fun r hr => (World.ownsRow.lt hown r hr).1)
      have hlx := HM6.out.lt List.mem_cons_self
      refine hK.out _ _ (HS.out _ b69) (fun _ => ?_)
      clear hK K
      have HO9 := Lib.hid (show OwnL SL w9 w6.heap.size v9 (T.g ++ [⟨T.x, 0, 0⟩]) from OwnL.snoc (by rw [HGN.out.1]; exact ho9) rfl rfl)
      have M9 := HM6.out.fresh b69 (HO9.out.is (by rw [List.length_append, HGN.out.1]; unfold maxLen; simp; omega) HGO.out) (fun j hj => own_sep HO9.out hj)
      obtain ⟨va, vc, rfl⟩ := own_slice1 ho9
      have x0 := M9.at_ (t := x) List.mem_cons_self
      obtain ⟨_, _, x6, _, _, _, _⟩ := cellsS x0
      have xf := Lib.frozen_of_heap x0 6
      have HM9 := Lib.hid M9
      have s9 := HS.out _ b69
      clear M9 hown ho9 hg9 x0 b68 HO HNEW
      simp only [Act.put, List.setIfInBounds_toArray, List.set_cons_zero, List.set_cons_succ, List.getElem_toArray, List.getElem_cons_succ, List.getElem_cons_zero]
      refine wpAnyH_take (i := 8) (v := .pointer (some ⟨x, 6, none⟩)) rfl (by kernel_rfl) (by kernel_rfl) (by kernel_rfl) (fun _ _ _ h => h) (Or.inl ⟨by rfl, fun W' hS => ?_⟩) s9 ?_
      · go_simp
      simp only [Act.put, List.setIfInBounds_toArray, List.set_cons_zero, List.set_cons_succ, List.getElem_toArray, List.getElem_cons_succ, List.getElem_cons_zero]
      refine wpAnyH_ready (rs := [9]) (by kernel_rfl) (by simp) (AllReadyH.cons rfl (fun K hK => ?_) AllReadyH.nil)
      replace hK := Lib.hid hK
      go_simp
      have hne : w.heap.size ≠ x := by have := HNX.out.1; omega
      have s10 := Pq.st1' s9 (t := x) (o := 6) (v := .slice va (gn + 1) vc) hne
      refine hK.out _ _ s10 (fun _ => ?_)
      clear hK K
      refine wpAnyH_done (by kernel_rfl) ?_ _
      clear s9 s10 x6 xf hlx
      go_wp2_with fail
      go_meet
      case rel =>
        obtain ⟨Z, hZ, MZ⟩ := HM9.out.lay1 (cs' := [(x, stO (.slice a1 n1 c1) (.slice va (gn + 1) vc) (more T T.d)), (w.heap.size, stO (.slice a1 n1 c1) (.slice a2 n2 c2) T), (e, .cells #[.int .i64 E0] 32), (w.heap.size + 1, z11)]) (t := x) List.mem_cons_self 6 (.slice va (gn + 1) vc) (fun p hp => by
          have := HNX.out
          simp only [List.mem_cons, List.not_mem_nil, or_false] at hp ⊢
          rcases hp with rfl | rfl | rfl | rfl
          · exact .inl rfl
          · exact .inr ⟨.inr (.inl rfl), by show w.heap.size ≠ x; omega⟩
          · exact .inr ⟨.inr (.inr (.inl rfl)), by show e ≠ x; omega⟩
          · exact .inr ⟨.inr (.inr (.inr rfl)), by show w.heap.size + 1 ≠ x; omega⟩)
        rw [hZ]
        exact ⟨_, _, _, MZ⟩
  case rest =>
    obtain ⟨a3, n3, c3, M10⟩ := hcut
    have HM10 := Lib.hid M10
    have HT0 := Lib.hid (Tk.new (A := form11 (.slice a2 n2 c2) T) (T := 31) (t := w.heap.size) (e := e) (v := .slice a1 n1 c1) (X := (T.d, E0)) (xs := [(w.heap.size + 1, z11), (x, stO (.slice a1 n1 c1) (.slice a3 n3 c3) (more T T.d))]) (gs := [(.slice a3 n3 c3, T.g ++ [⟨T.x, 0, 0⟩]), (.slice a2 n2 c2, T.g)]) (M10.sub (fun p hp => by
      simp only [List.mem_cons, List.not_mem_nil, or_false] at hp ⊢
      rcases hp with rfl | rfl | rfl | rfl
      · exact .inr (.inl rfl)
      · exact .inr (.inr (.inl rfl))
      · exact .inr (.inr (.inr rfl))
      · exact .inl rfl) (fun _ hp => hp) (fun _ hp => hp)) (by have := HNE.out; omega) (fun p hp => by
      have := HNE.out
      have := HNX.out
      simp only [List.mem_cons, List.not_mem_nil, or_false] at hp
      rcases hp with rfl | rfl
      · exact ⟨by show w.heap.size + 1 ≠ w.heap.size; omega, by show w.heap.size + 1 ≠ e; omega⟩
      · exact ⟨by show x ≠ w.heap.size; omega, by show x ≠ e; omega⟩))
    clear M10 HM6 P6 HM10
    go_wp2_with fail
    refine (taking_any _ _ _).mono ?_
    rintro en w11 ⟨rfl, rfl⟩
    obtain ⟨d, hd⟩ : ∃ d, wc.heap.size = d := ⟨_, rfl⟩
    rw [hd] at HT0 ⊢
    generalize World.alloc (World.alloc wc _) _ = w11 at HT0 ⊢
    clear hd
    have hxx : (x, stO (.slice a1 n1 c1) (.slice a3 n3 c3) (more T T.d)) ∈ [(w.heap.size + 1, z11), (x, stO (.slice a1 n1 c1) (.slice a3 n3 c3) (more T T.d))] := List.mem_cons_of_mem _ List.mem_cons_self
    have HXX := Lib.hid hxx
    obtain ⟨⟨p0, p1, p2, p3, p4⟩, p5, p6, p7, p8, p9, p10⟩ := cellsS (HT0.out.hx hxx)
    replace p5 : w11.cell? ⟨x, 5, none⟩ = some (.int .i64 (T.v + 1)) := p5
    replace p7 : w11.cell? ⟨x, 7, none⟩ = some (.int .i64 T.x) := p7
    replace p8 : w11.cell? ⟨x, 8, none⟩ = some (.int .i64 T.s) := p8
    replace p9 : w11.cell? ⟨x, 9, none⟩ = some (.int .i64 T.z) := p9
    replace p10 : w11.cell? ⟨x, 10, none⟩ = some (.int .u32 T.c) := p10
    dsimp only [more] at p0 p1 p2 p3 p4
    clear hxx
    go_wp2_with fail
    refine (HF.out _ _ _ (HT0.out.m.sl List.mem_cons_self)).mono ?_
    rintro en w12 ⟨rfl, b12⟩
    have HT1 := Lib.hid (HT0.out.keep b12)
    clear b12 HT0 p0 p1 p2 p3 p4 p5 p6 p7 p8 p9 p10
    go_wp2_with fail
    refine (created_any (segN T.x) _).mono ?_
    rintro en w13 ⟨rfl, rfl⟩
    go_wp2_with fail
    refine (Tk.take (form11_is _ _) (HT1.out.al _) (stp_created HC.out.1 (by omega) (segN T.x) HSZ.out HT1.out.fl)).mono ?_
    rintro en w14 ⟨rfl, a14, n14, c14, T14⟩
    rw [show tk (T.d, E0) (Dp.create (T.d, E0).1 (segN T.x)) = X1 from HX1.out] at T14
    have HT14 := Lib.hid T14
    clear T14 HT1
    obtain ⟨⟨p0, p1, p2, p3, p4⟩, p5, p6, p7, p8, p9, p10⟩ := cellsS (HT14.out.hx HXX.out)
    replace p5 : w14.cell? ⟨x, 5, none⟩ = some (.int .i64 (T.v + 1)) := p5
    replace p7 : w14.cell? ⟨x, 7, none⟩ = some (.int .i64 T.x) := p7
    replace p8 : w14.cell? ⟨x, 8, none⟩ = some (.int .i64 T.s) := p8
    replace p9 : w14.cell? ⟨x, 9, none⟩ = some (.int .i64 T.z) := p9
    replace p10 : w14.cell? ⟨x, 10, none⟩ = some (.int .u32 T.c) := p10
    dsimp only [more] at p0 p1 p2 p3 p4
    go_wp2_with fail
    refine (MN.out _ _ _ (HT14.out.m.sl List.mem_cons_self)).mono ?_
    rintro en w15 ⟨am, an, ac, rfl, hl, b15⟩
    have HL := Lib.hid hl
    have HT15 := Lib.hid (HT14.out.keep b15)
    clear hl b15 HT14 MN p0 p1 p2 p3 p4 p5 p6 p7 p8 p9 p10
    unfold Mfs.mnVal
    go_wp2_with fail
    refine (swapped_any am an ac m _).mono ?_
    rintro en w16 ⟨rfl, rfl⟩
    go_wp2_with fail
    refine (Tk.take (form11_is _ _) (HT15.out.al _) (stp_swapped HC.out.2.1 (by omega) HL.out HMB.out HT15.out.fl)).mono ?_
    rintro en w17 ⟨rfl, a17, n17, c17, T17⟩
    rw [HX2.out] at T17
    obtain ⟨XD, XE⟩ := X2
    have HT17 := Lib.hid T17
    clear HT15 HL
    obtain ⟨⟨p0, p1, p2, p3, p4⟩, p5, p6, p7, p8, p9, p10⟩ := cellsS (HT17.out.hx HXX.out)
    replace p5 : w17.cell? ⟨x, 5, none⟩ = some (.int .i64 (T.v + 1)) := p5
    replace p7 : w17.cell? ⟨x, 7, none⟩ = some (.int .i64 T.x) := p7
    replace p8 : w17.cell? ⟨x, 8, none⟩ = some (.int .i64 T.s) := p8
    replace p9 : w17.cell? ⟨x, 9, none⟩ = some (.int .i64 T.z) := p9
    replace p10 : w17.cell? ⟨x, 10, none⟩ = some (.int .u32 T.c) := p10
    dsimp only [more] at p0 p1 p2 p3 p4
    obtain ⟨⟨r0, r1, r2, r3, r4⟩, r5, r6, r7, r8, r9, r10⟩ := cellsS T17.hd
    have rf := frozenS T17.hd
    obtain ⟨ec, ef⟩ := cells1 T17.he
    have hz := T17.hx (i := w.heap.size + 1) (o := z11) List.mem_cons_self
    obtain ⟨⟨q0, q1, q2, q3, q4⟩, q5, q6, q7, q8, q9, q10⟩ := cellsS hz
    have qf := frozenS hz
    dsimp only at r0 r1 r2 r3 r4 ec
    have ne1 : ¬ (w.heap.size = x) := by have := HNX.out; omega
    have ne2 : ¬ (x = w.heap.size) := by have := HNX.out; omega
    have ne3 : ¬ (e = w.heap.size) := by have := HNE.out; omega
    have ne4 : ¬ (w.heap.size = e) := by have := HNE.out; omega
    have ne5 : ¬ (e = w.heap.size + 1) := by have := HNE.out; omega
    have ne6 : ¬ (w.heap.size + 1 = e) := by have := HNE.out; omega
    clear T17 hz
    by_cases hE : XE = 0
    · subst hE
      have HRR := Lib.hid (show roll S = (more T XD, 0) by rw [HRL.out, if_pos rfl])
      have N1 := HNX.out
      have N2 := HNE.out
      have LY := Lib.hid (show ∃ Z, (w17.setCell ⟨w.heap.size, 5, none⟩ (.int .i64 (T.v + 1))).setCell ⟨w.heap.size, 6, none⟩ (.slice a3 n3 c3) = Z ∧ Ms w w.heap.size (.slice fa fn fc) (.slice ga gn gc) [(w.heap.size, stO (.slice a17 n17 c17) (.slice a3 n3 c3) (more T XD)), (e, .cells #[.int .i64 0] 32), (w.heap.size + 1, z11)] [((.slice a17 n17 c17), XD.f)] [((.slice a3 n3 c3), T.g ++ [⟨T.x, 0, 0⟩])] Z from by
        obtain ⟨Y, hY, MY⟩ := HT17.out.m.lay1 (cs' := [(w.heap.size, .cells #[(.slice a17 n17 c17), .int .i64 XD.c, .bool XD.a, .int .i64 XD.l, .bool XD.x, .int .i64 (T.v + 1), (.slice a2 n2 c2), .int .i64 T.x, .int .i64 T.s, .int .i64 T.z, .int .u32 T.c] 31), (e, .cells #[.int .i64 0] 32), (w.heap.size + 1, z11)]) (t := w.heap.size) List.mem_cons_self 5 (.int .i64 (T.v + 1)) (fun p hp => by
          simp only [List.mem_cons, List.not_mem_nil, or_false] at hp ⊢
          rcases hp with rfl | rfl | rfl
          · exact .inl rfl
          · exact .inr ⟨.inr (.inl rfl), by show e ≠ w.heap.size; omega⟩
          · exact .inr ⟨.inr (.inr (.inr (.inr (.inl rfl)))), by show w.heap.size + 1 ≠ w.heap.size; omega⟩)
        obtain ⟨Z, hZ, MZ⟩ := MY.lay1 (cs' := [(w.heap.size, stO (.slice a17 n17 c17) (.slice a3 n3 c3) (more T XD)), (e, .cells #[.int .i64 0] 32), (w.heap.size + 1, z11)]) (t := w.heap.size) List.mem_cons_self 6 (.slice a3 n3 c3) (fun p hp => by
          simp only [List.mem_cons, List.not_mem_nil, or_false] at hp ⊢
          rcases hp with rfl | rfl | rfl
          · exact .inl rfl
          · exact .inr ⟨.inr (.inl rfl), by show e ≠ w.heap.size; omega⟩
          · exact .inr ⟨.inr (.inr rfl), by show w.heap.size + 1 ≠ w.heap.size; omega⟩)
        exact ⟨Z, by rw [hY, hZ], MZ.sub (fun _ h => h) (fun _ h => h) (fun p hp => by rw [List.mem_singleton] at hp; rw [hp]; exact List.mem_cons_self)⟩)
      clear HRL HX2 HX1 N1 N2
      go_upto_region 12 with (fail)
      go_region
      obtain ⟨Z0, hZ0, MZ0⟩ := LY.out
      rw [hZ0]
      have HMR := Lib.hid (MZ0.keep (W' := Z0.drew) (Below.refl _ _).drew)
      generalize Z0.drew = w18 at HMR ⊢
      clear hZ0 MZ0 LY p0 p1 p2 p3 p4 p5 p6 p7 p8 p9 p10 r0 r1 r2 r3 r4 r5 r6 r7 r8 r9 r10 rf ec ef q0 q1 q2 q3 q4 q5 q6 q7 q8 q9 q10 qf ne1 ne2 ne3 ne4 ne5 ne6
      go_upto_region 15 with (fail)
      -- the answer: (more T XD), 0, in world %W (boxes HMR, equation HRR)
      have MR := HMR.out
      obtain ⟨⟨r0, r1, r2, r3, r4⟩, r5, r6, r7, r8, r9, r10⟩ := cellsS (MR.at_ (t := w.heap.size) List.mem_cons_self)
      obtain ⟨ec, ef⟩ := cells1 (MR.at_ (t := e) (List.mem_cons_of_mem _ List.mem_cons_self))
      have hz := MR.at_ (t := w.heap.size + 1) (o := z11) (List.mem_cons_of_mem _ (List.mem_cons_of_mem _ List.mem_cons_self))
      obtain ⟨⟨q0, q1, q2, q3, q4⟩, q5, q6, q7, q8, q9, q10⟩ := cellsS hz
      have qf := frozenS hz
      have ne5 : ¬ (e = w.heap.size + 1) := by have := HNE.out; omega
      have ne6 : ¬ (w.heap.size + 1 = e) := by have := HNE.out; omega
      have ne7 : ¬ (w.heap.size = w.heap.size + 1) := by omega
      have ne8 : ¬ (w.heap.size + 1 = w.heap.size) := by omega
      dsimp only [more] at r0 r1 r2 r3 r4 r5 r7 r8 r9 r10
      clear MR hz
      go_region
      all_goals
        go_wp2_with fail
        obtain ⟨Z, hZ, M8⟩ := HMR.out.lay11 (cs' := [(w.heap.size + 1, stO (.slice a17 n17 c17) (.slice a3 n3 c3) (more T XD))]) (t := w.heap.size + 1) (List.mem_cons_of_mem _ (List.mem_cons_of_mem _ List.mem_cons_self)) (.slice a17 n17 c17) (.int .i64 XD.c) (.bool XD.a) (.int .i64 XD.l) (.bool XD.x) (.int .i64 (T.v + 1)) (.slice a3 n3 c3) (.int .i64 T.x) (.int .i64 T.s) (.int .i64 T.z) (.int .u32 T.c) (fun p hp => by
          simp only [List.mem_cons, List.not_mem_nil, or_false] at hp
          subst hp
          exact .inl rfl)
        rw [hZ]
        have M9 := M8.keep (W' := Z.drew) (Below.refl _ _).drew
        obtain ⟨⟨z0, z1, z2, z3, z4⟩, z5, z6, z7, z8, z9, z10⟩ := cellsS (M9.at_ List.mem_cons_self)
        dsimp only [more] at z0 z1 z2 z3 z4 z5 z7 z8 z9 z10
        refine bodyPost_ret (v := .tuple #[stVal (.slice a17 n17 c17) (.slice a3 n3 c3) (more T XD), .int .i64 0]) (by unfold stVal more; simp [results, Tryz.results66, go_sem, z0, z1, z2, z3, z4, z5, z6, z7, z8, z9, z10]) rfl ?_
        rw [HRR.out]
        exact ⟨_, _, _, _, _, _, rfl, M9.sts (T := (more T XD)) List.mem_cons_self List.mem_cons_self⟩

    · by_cases h9 : XE = 9
      · subst h9
        have HFW := Lib.hid fun (W : World) (b : Below w17.heap.size w17 W) => HF.out (.slice a1 n1 c1) (.slice a3 n3 c3) W ((HT17.out.keep b).m.sl List.mem_cons_self)
        obtain ⟨⟨WD, WE⟩, hW⟩ : ∃ R, wo XD (segN T.x) = R := ⟨_, rfl⟩
        have CW := Lib.hid fun (W : World) (b : Below w17.heap.size w17 W) => without12_any a17 n17 c17 XD (segN T.x) W _ ((HT17.out.keep b).fl) HC.out.2.2 (by omega)
        rw [hW] at CW
        have HRR := Lib.hid (show roll S = ({ T with d := WD }, WE) by
          rw [HRL.out, if_neg hE, if_pos rfl]
          dsimp only
          rw [hW])
        unfold dkVal at CW
        clear HRL HX2 HX1 hE hW q0 q1 q2 q3 q4 q5 q6 q7 q8 q9 q10 qf ne1 ne2 ne3 ne4 ne5 ne6
        go_upto_region 14 with (fail)
        have PX := Lib.hid (show (fun W : World => W.cell? ⟨x, 0, none⟩ = some (.slice a1 n1 c1) ∧ W.cell? ⟨x, 1, none⟩ = some (.int .i64 T.d.c) ∧ W.cell? ⟨x, 2, none⟩ = some (.bool T.d.a) ∧ W.cell? ⟨x, 3, none⟩ = some (.int .i64 T.d.l) ∧ W.cell? ⟨x, 4, none⟩ = some (.bool T.d.x) ∧ W.cell? ⟨x, 5, none⟩ = some (.int .i64 (T.v + 1)) ∧ W.cell? ⟨x, 6, none⟩ = some (.slice a3 n3 c3) ∧ W.cell? ⟨x, 7, none⟩ = some (.int .i64 T.x) ∧ W.cell? ⟨x, 8, none⟩ = some (.int .i64 T.s) ∧ W.cell? ⟨x, 9, none⟩ = some (.int .i64 T.z) ∧ W.cell? ⟨x, 10, none⟩ = some (.int .u32 T.c)) w17 from ⟨p0, p1, p2, p3, p4, p5, p6, p7, p8, p9, p10⟩)
        have HS := Lib.hid fun (W : World) (b : Below w17.heap.size w17 W) => (show (fun W : World => W.cell? ⟨x, 0, none⟩ = some (.slice a1 n1 c1) ∧ W.cell? ⟨x, 1, none⟩ = some (.int .i64 T.d.c) ∧ W.cell? ⟨x, 2, none⟩ = some (.bool T.d.a) ∧ W.cell? ⟨x, 3, none⟩ = some (.int .i64 T.d.l) ∧ W.cell? ⟨x, 4, none⟩ = some (.bool T.d.x) ∧ W.cell? ⟨x, 5, none⟩ = some (.int .i64 (T.v + 1)) ∧ W.cell? ⟨x, 6, none⟩ = some (.slice a3 n3 c3) ∧ W.cell? ⟨x, 7, none⟩ = some (.int .i64 T.x) ∧ W.cell? ⟨x, 8, none⟩ = some (.int .i64 T.s) ∧ W.cell? ⟨x, 9, none⟩ = some (.int .i64 T.z) ∧ W.cell? ⟨x, 10, none⟩ = some (.int .u32 T.c)) W from by
          have q : ∀ {o : Nat} {y : Value}, w17.cell? ⟨x, o, none⟩ = some y → W.cell? ⟨x, o, none⟩ = some y := fun h => (b.cell (p := ⟨x, _, none⟩) (block_lt_of_cell h)).trans h
          obtain ⟨h0, h1, h2, h3, h4, h5, h6, h7, h8, h9, h10⟩ := PX.out
          exact ⟨q h0, q h1, q h2, q h3, q h4, q h5, q h6, q h7, q h8, q h9, q h10⟩)
        have HD := Lib.hid fun (W : World) (b : Below w17.heap.size w17 W) => (show (W.cell? ⟨w.heap.size, 0, none⟩ = some (.slice a17 n17 c17) ∧ W.cell? ⟨w.heap.size, 1, none⟩ = some (.int .i64 XD.c) ∧ W.cell? ⟨w.heap.size, 2, none⟩ = some (.bool XD.a) ∧ W.cell? ⟨w.heap.size, 3, none⟩ = some (.int .i64 XD.l) ∧ W.cell? ⟨w.heap.size, 4, none⟩ = some (.bool XD.x)) ∧ (∀ o, W.frozen? ⟨w.heap.size, o, none⟩ = false) ∧ W.cell? ⟨e, 0, none⟩ = some (.int .i64 9) ∧ W.frozen? ⟨e, 0, none⟩ = false from
          ⟨(cellsS (HT17.out.keep b).hd).1, frozenS (HT17.out.keep b).hd, cells1 (HT17.out.keep b).he⟩)
        clear p0 p1 p2 p3 p4 p5 p6 p7 p8 p9 p10 r0 r1 r2 r3 r4 r5 r6 r7 r8 r9 r10 rf ec ef
        have bd : Below w17.heap.size w17 w17.drew := (Below.refl _ _).drew
        have h0 := HS.out _ bd
        refine region_plain (by kernel_rfl) (fun W : World => W.cell? ⟨x, 0, none⟩ = some (.slice a1 n1 c1) ∧ W.cell? ⟨x, 1, none⟩ = some (.int .i64 T.d.c) ∧ W.cell? ⟨x, 2, none⟩ = some (.bool T.d.a) ∧ W.cell? ⟨x, 3, none⟩ = some (.int .i64 T.d.l) ∧ W.cell? ⟨x, 4, none⟩ = some (.bool T.d.x) ∧ W.cell? ⟨x, 5, none⟩ = some (.int .i64 (T.v + 1)) ∧ W.cell? ⟨x, 6, none⟩ = some (.slice a3 n3 c3) ∧ W.cell? ⟨x, 7, none⟩ = some (.int .i64 T.x) ∧ W.cell? ⟨x, 8, none⟩ = some (.int .i64 T.s) ∧ W.cell? ⟨x, 9, none⟩ = some (.int .i64 T.z) ∧ W.cell? ⟨x, 10, none⟩ = some (.int .u32 T.c)) 11 rfl #[false, false, false, false, false, false, false, false, false, false, false] rfl ?_
        refine wpAnyH_take (i := 0) (v := .pointer (some ⟨w.heap.size, 0, none⟩)) rfl (by kernel_rfl) (by kernel_rfl) (by kernel_rfl) (fun _ _ _ h => h) (Or.inl ⟨by rfl, fun W' hS => ?_⟩) h0 ?_
        · go_simp
        simp only [Act.put, List.setIfInBounds_toArray, List.set_cons_zero, List.set_cons_succ, List.getElem_toArray, List.getElem_cons_zero]
        refine wpAnyH_take (i := 2) (v := .agg #[.slice a1 n1 c1, .int .i64 T.d.c, .bool T.d.a, .int .i64 T.d.l, .bool T.d.x, .int .i64 (T.v + 1), .slice a3 n3 c3, .int .i64 T.x, .int .i64 T.s, .int .i64 T.z, .int .u32 T.c]) rfl (by kernel_rfl) (by kernel_rfl) (by kernel_rfl) (fun _ _ _ h => h) (Or.inl ⟨by rfl, fun W' hS => ?_⟩) h0 ?_
        · obtain ⟨c0, c1, c2, c3, c4, c5, c6, c7, c8, c9, c10⟩ := hS; go_simp
        simp only [Act.put, List.setIfInBounds_toArray, List.set_cons_zero, List.set_cons_succ, List.getElem_toArray, List.getElem_cons_succ, List.getElem_cons_zero]
        refine wpAnyH_ready (rs := [1, 3]) (by kernel_rfl) (by simp) (AllReadyH.cons rfl (fun K hK => ?_) (AllReadyH.cons rfl (fun K hK => ?_) AllReadyH.nil))
        replace hK := Lib.hid hK
        obtain ⟨⟨d0, d1, d2, d3, d4⟩, _⟩ := HD.out _ bd
        go_simp
        refine hK.out _ _ h0 (fun _ => ?_)
        clear hK K d0 d1 d2 d3 d4
        simp only [List.setIfInBounds_toArray, List.set_cons_zero, List.set_cons_succ]
        refine wpAnyH_ready (rs := [3]) (by kernel_rfl) (by simp) (AllReadyH.cons rfl (fun K hK => ?_) AllReadyH.nil)
        replace hK := Lib.hid hK
        go_simp
        refine (HFW.out _ bd).mono ?_
        rintro en w18 ⟨rfl, b7⟩
        dsimp only
        have b18 : Below w17.heap.size w17 w18 := bd.trans (b7.mono bd.size)
        refine hK.out _ _ (HS.out _ b18) (fun _ => ?_)
        clear hK K b7
        rotate_left
        replace hK := Lib.hid hK
        go_simp
        refine (HFW.out _ bd).mono ?_
        rintro en w18 ⟨rfl, b7⟩
        dsimp only
        have b18 : Below w17.heap.size w17 w18 := bd.trans (b7.mono bd.size)
        refine hK.out _ _ (HS.out _ b18) (fun _ => ?_)
        clear hK K b7
        simp only [List.setIfInBounds_toArray, List.set_cons_zero, List.set_cons_succ]
        refine wpAnyH_ready (rs := [1]) (by kernel_rfl) (by simp) (AllReadyH.cons rfl (fun K hK => ?_) AllReadyH.nil)
        replace hK := Lib.hid hK
        obtain ⟨⟨d0, d1, d2, d3, d4⟩, _⟩ := HD.out _ b18
        go_simp
        refine hK.out _ _ (HS.out _ b18) (fun _ => ?_)
        clear hK K d0 d1 d2 d3 d4
        all_goals
          simp only [List.setIfInBounds_toArray, List.set_cons_zero, List.set_cons_succ]
          refine wpAnyH_ready (rs := [4]) (by kernel_rfl) (by simp) (AllReadyH.cons rfl (fun K hK => ?_) AllReadyH.nil)
          replace hK := Lib.hid hK
          go_simp
          refine (CW.out _ b18).mono ?_
          rintro en w19 ⟨a18, n18, c18, rfl, kk⟩
          dsimp only
          have b19 : Below w17.heap.size w17 w19 := b18.trans (kk.w.mono b18.size)
          have s19 := HS.out _ b19
          refine hK.out _ _ s19 (fun _ => ?_)
          clear hK K
          unfold dkVal
          simp only [List.setIfInBounds_toArray, List.set_cons_zero, List.set_cons_succ]
          refine wpAnyH_take (i := 5) (v := .tuple #[.agg #[.slice a18 n18 c18, .int .i64 WD.c, .bool WD.a, .int .i64 WD.l, .bool WD.x], .int .i64 WE]) rfl (by kernel_rfl) (by kernel_rfl) (by kernel_rfl) (fun _ _ _ h => h) (Or.inl ⟨by rfl, fun W' hS => ?_⟩) s19 ?_
          · go_simp
          simp only [Act.put, List.setIfInBounds_toArray, List.set_cons_zero, List.set_cons_succ, List.getElem_toArray, List.getElem_cons_succ, List.getElem_cons_zero]
          refine wpAnyH_take (i := 6) (v := .agg #[.slice a18 n18 c18, .int .i64 WD.c, .bool WD.a, .int .i64 WD.l, .bool WD.x]) rfl (by kernel_rfl) (by kernel_rfl) (by kernel_rfl) (fun _ _ _ h => h) (Or.inl ⟨by rfl, fun W' hS => ?_⟩) s19 ?_
          · go_simp
          simp only [Act.put, List.setIfInBounds_toArray, List.set_cons_zero, List.set_cons_succ, List.getElem_toArray, List.getElem_cons_succ, List.getElem_cons_zero]
          refine wpAnyH_take (i := 7) (v := .int .i64 WE) rfl (by kernel_rfl) (by kernel_rfl) (by kernel_rfl) (fun _ _ _ h => h) (Or.inl ⟨by rfl, fun W' hS => ?_⟩) s19 ?_
          · go_simp
          simp only [Act.put, List.setIfInBounds_toArray, List.set_cons_zero, List.set_cons_succ, List.getElem_toArray, List.getElem_cons_succ, List.getElem_cons_zero]
          refine wpAnyH_take (i := 8) (v := .pointer (some ⟨w.heap.size, 0, none⟩)) rfl (by kernel_rfl) (by kernel_rfl) (by kernel_rfl) (fun _ _ _ h => h) (Or.inl ⟨by rfl, fun W' hS => ?_⟩) s19 ?_
          · go_simp
          simp only [Act.put, List.setIfInBounds_toArray, List.set_cons_zero, List.set_cons_succ, List.getElem_toArray, List.getElem_cons_succ, List.getElem_cons_zero]
          refine wpAnyH_ready (rs := [9]) (by kernel_rfl) (by simp) (AllReadyH.cons rfl (fun K hK => ?_) AllReadyH.nil)
          replace hK := Lib.hid hK
          obtain ⟨⟨d0, d1, d2, d3, d4⟩, df, e0, ef⟩ := HD.out _ b19
          have N1 := HNX.out
          have N2 := HNE.out
          have ex : e ≠ x := by omega
          have tx : w.heap.size ≠ x := by omega
          go_simp
          have LY := Lib.hid (show ∃ Y Z, ((((w19.setCell ⟨w.heap.size, 0, none⟩ (.slice a18 n18 c18)).setCell ⟨w.heap.size, 1, none⟩ (.int .i64 WD.c)).setCell ⟨w.heap.size, 2, none⟩ (.bool WD.a)).setCell ⟨w.heap.size, 3, none⟩ (.int .i64 WD.l)).setCell ⟨w.heap.size, 4, none⟩ (.bool WD.x) = Y ∧ (fun W : World => W.cell? ⟨x, 0, none⟩ = some (.slice a1 n1 c1) ∧ W.cell? ⟨x, 1, none⟩ = some (.int .i64 T.d.c) ∧ W.cell? ⟨x, 2, none⟩ = some (.bool T.d.a) ∧ W.cell? ⟨x, 3, none⟩ = some (.int .i64 T.d.l) ∧ W.cell? ⟨x, 4, none⟩ = some (.bool T.d.x) ∧ W.cell? ⟨x, 5, none⟩ = some (.int .i64 (T.v + 1)) ∧ W.cell? ⟨x, 6, none⟩ = some (.slice a3 n3 c3) ∧ W.cell? ⟨x, 7, none⟩ = some (.int .i64 T.x) ∧ W.cell? ⟨x, 8, none⟩ = some (.int .i64 T.s) ∧ W.cell? ⟨x, 9, none⟩ = some (.int .i64 T.z) ∧ W.cell? ⟨x, 10, none⟩ = some (.int .u32 T.c)) Y ∧ Y.cell? ⟨e, 0, none⟩ = some (.int .i64 9) ∧ Y.frozen? ⟨e, 0, none⟩ = false ∧ Y.setCell ⟨e, 0, none⟩ (.int .i64 WE) = Z ∧ (fun W : World => W.cell? ⟨x, 0, none⟩ = some (.slice a1 n1 c1) ∧ W.cell? ⟨x, 1, none⟩ = some (.int .i64 T.d.c) ∧ W.cell? ⟨x, 2, none⟩ = some (.bool T.d.a) ∧ W.cell? ⟨x, 3, none⟩ = some (.int .i64 T.d.l) ∧ W.cell? ⟨x, 4, none⟩ = some (.bool T.d.x) ∧ W.cell? ⟨x, 5, none⟩ = some (.int .i64 (T.v + 1)) ∧ W.cell? ⟨x, 6, none⟩ = some (.slice a3 n3 c3) ∧ W.cell? ⟨x, 7, none⟩ = some (.int .i64 T.x) ∧ W.cell? ⟨x, 8, none⟩ = some (.int .i64 T.s) ∧ W.cell? ⟨x, 9, none⟩ = some (.int .i64 T.z) ∧ W.cell? ⟨x, 10, none⟩ = some (.int .u32 T.c)) Z ∧ Ms w w.heap.size (.slice fa fn fc) (.slice ga gn gc) [(w.heap.size, stO (.slice a18 n18 c18) (.slice a2 n2 c2) { T with d := WD }), (e, .cells #[.int .i64 WE] 32), (w.heap.size + 1, z11)] [((.slice a18 n18 c18), WD.f)] [((.slice a2 n2 c2), T.g)] Z from by
            have M18 := (HT17.out.keep b18).m.call (D' := WD) List.mem_cons_self kk
            obtain ⟨Y, hY, MY⟩ := M18.layD (cs' := (w.heap.size, stO (.slice a18 n18 c18) (.slice a2 n2 c2) { T with d := WD }) :: (e, .cells #[.int .i64 9] 32) :: (w.heap.size + 1, z11) :: [(x, stO (.slice a1 n1 c1) (.slice a3 n3 c3) (more T T.d))]) (t := w.heap.size) List.mem_cons_self (.slice a18 n18 c18) (.int .i64 WD.c) (.bool WD.a) (.int .i64 WD.l) (.bool WD.x) (fun p hp => by
              simp only [List.mem_cons, List.not_mem_nil, or_false] at hp ⊢
              rcases hp with rfl | rfl | rfl | rfl
              · exact .inl rfl
              · exact .inr ⟨.inr (.inl rfl), by show e ≠ w.heap.size; omega⟩
              · exact .inr ⟨.inr (.inr (.inr (.inr (.inl rfl)))), by show w.heap.size + 1 ≠ w.heap.size; omega⟩
              · exact .inr ⟨.inr (.inr (.inr (.inr (.inr rfl)))), by show x ≠ w.heap.size; omega⟩)
            obtain ⟨Z, hZ, MZ⟩ := MY.lay1 (cs' := (w.heap.size, stO (.slice a18 n18 c18) (.slice a2 n2 c2) { T with d := WD }) :: (e, .cells #[.int .i64 WE] 32) :: (w.heap.size + 1, z11) :: [(x, stO (.slice a1 n1 c1) (.slice a3 n3 c3) (more T T.d))]) (t := e) (List.mem_cons_of_mem _ List.mem_cons_self) 0 (.int .i64 WE) (fun p hp => by
              simp only [List.mem_cons, List.not_mem_nil, or_false] at hp ⊢
              rcases hp with rfl | rfl | rfl | rfl
              · exact .inr ⟨.inl rfl, by show w.heap.size ≠ e; omega⟩
              · exact .inl rfl
              · exact .inr ⟨.inr (.inr (.inl rfl)), by show w.heap.size + 1 ≠ e; omega⟩
              · exact .inr ⟨.inr (.inr (.inr rfl)), by show x ≠ e; omega⟩)
            obtain ⟨⟨y0, y1, y2, y3, y4⟩, y5, y6, y7, y8, y9, y10⟩ := cellsS (MY.at_ (t := x) (List.mem_cons_of_mem _ (List.mem_cons_of_mem _ (List.mem_cons_of_mem _ List.mem_cons_self))))
            obtain ⟨⟨x0, x1, x2, x3, x4⟩, x5, x6, x7, x8, x9, x10⟩ := cellsS (MZ.at_ (t := x) (List.mem_cons_of_mem _ (List.mem_cons_of_mem _ (List.mem_cons_of_mem _ List.mem_cons_self))))
            obtain ⟨ye, yf⟩ := cells1 (MY.at_ (t := e) (List.mem_cons_of_mem _ List.mem_cons_self))
            exact ⟨Y, Z, hY, ⟨y0, y1, y2, y3, y4, y5, y6, y7, y8, y9, y10⟩, ye, yf, hZ, ⟨x0, x1, x2, x3, x4, x5, x6, x7, x8, x9, x10⟩, MZ.sub (fun p hp => by
              simp only [List.mem_cons, List.not_mem_nil, or_false] at hp ⊢
              rcases hp with rfl | rfl | rfl
              · exact .inl rfl
              · exact .inr (.inl rfl)
              · exact .inr (.inr (.inl rfl))) (fun p hp => by rw [List.mem_singleton] at hp; rw [hp]; exact List.mem_cons_self) (fun p hp => by rw [List.mem_singleton] at hp; rw [hp]; exact List.mem_cons_of_mem _ List.mem_cons_self)⟩)
          obtain ⟨Y, Z, hY, sY, eY, fY, hZ, sZ, MZ⟩ := LY.out
          have HMR := Lib.hid MZ
          rw [hY]
          have HZ := Lib.hid hZ
          refine hK.out _ _ sY (fun _ => ?_)
          clear hK K LY kk hY hZ MZ d0 d1 d2 d3 d4 df e0 ef
          simp only [List.setIfInBounds_toArray, List.set_cons_zero, List.set_cons_succ]
          refine wpAnyH_ready (rs := [10]) (by kernel_rfl) (by simp) (AllReadyH.cons rfl (fun K hK => ?_) AllReadyH.nil)
          replace hK := Lib.hid hK
          go_simp
          rw [HZ.out]
          refine hK.out _ _ sZ (fun _ => ?_)
          clear hK K
          refine wpAnyH_done (by kernel_rfl) ?_ _
          clear sY sZ eY fY s19 h0 ex tx N1 N2
          go_upto_region 15 with (fail)
          -- the answer: { T with d := WD }, WE, in world %W (boxes HMR, equation HRR)
          have MR := HMR.out
          obtain ⟨⟨r0, r1, r2, r3, r4⟩, r5, r6, r7, r8, r9, r10⟩ := cellsS (MR.at_ (t := w.heap.size) List.mem_cons_self)
          obtain ⟨ec, ef⟩ := cells1 (MR.at_ (t := e) (List.mem_cons_of_mem _ List.mem_cons_self))
          have hz := MR.at_ (t := w.heap.size + 1) (o := z11) (List.mem_cons_of_mem _ (List.mem_cons_of_mem _ List.mem_cons_self))
          obtain ⟨⟨q0, q1, q2, q3, q4⟩, q5, q6, q7, q8, q9, q10⟩ := cellsS hz
          have qf := frozenS hz
          have ne5 : ¬ (e = w.heap.size + 1) := by have := HNE.out; omega
          have ne6 : ¬ (w.heap.size + 1 = e) := by have := HNE.out; omega
          have ne7 : ¬ (w.heap.size = w.heap.size + 1) := by omega
          have ne8 : ¬ (w.heap.size + 1 = w.heap.size) := by omega
          clear MR hz
          go_region
          all_goals
            go_wp2_with fail
            obtain ⟨Z, hZ, M8⟩ := HMR.out.lay11 (cs' := [(w.heap.size + 1, stO (.slice a18 n18 c18) (.slice a2 n2 c2) { T with d := WD })]) (t := w.heap.size + 1) (List.mem_cons_of_mem _ (List.mem_cons_of_mem _ List.mem_cons_self)) (.slice a18 n18 c18) (.int .i64 WD.c) (.bool WD.a) (.int .i64 WD.l) (.bool WD.x) (.int .i64 T.v) (.slice a2 n2 c2) (.int .i64 T.x) (.int .i64 T.s) (.int .i64 T.z) (.int .u32 T.c) (fun p hp => by
              simp only [List.mem_cons, List.not_mem_nil, or_false] at hp
              subst hp
              exact .inl rfl)
            rw [hZ]
            have M9 := M8.keep (W' := Z.drew) (Below.refl _ _).drew
            obtain ⟨⟨z0, z1, z2, z3, z4⟩, z5, z6, z7, z8, z9, z10⟩ := cellsS (M9.at_ List.mem_cons_self)
            refine bodyPost_ret (v := .tuple #[stVal (.slice a18 n18 c18) (.slice a2 n2 c2) { T with d := WD }, .int .i64 WE]) (by unfold stVal; simp [results, Tryz.results66, go_sem, z0, z1, z2, z3, z4, z5, z6, z7, z8, z9, z10]) rfl ?_
            rw [HRR.out]
            exact ⟨_, _, _, _, _, _, rfl, M9.sts (T := { T with d := WD }) List.mem_cons_self List.mem_cons_self⟩

      · have HRR := Lib.hid (show roll S = ({ T with d := XD }, XE) by rw [HRL.out, if_neg hE, if_neg h9])
        have hE' := ne_b hE
        have h9' := ne_b h9
        have HMR := Lib.hid (show Ms w w.heap.size (.slice fa fn fc) (.slice ga gn gc) [(w.heap.size, stO (.slice a17 n17 c17) (.slice a2 n2 c2) { T with d := XD }), (e, .cells #[.int .i64 XE] 32), (w.heap.size + 1, z11)] [((.slice a17 n17 c17), XD.f)] [((.slice a2 n2 c2), T.g)] w17 from HT17.out.m.sub (fun p hp => by
          simp only [List.mem_cons, List.not_mem_nil, or_false] at hp ⊢
          rcases hp with rfl | rfl | rfl
          · exact .inl rfl
          · exact .inr (.inl rfl)
          · exact .inr (.inr (.inr (.inr (.inl rfl))))) (fun _ h => h) (fun p hp => by rw [List.mem_singleton] at hp; rw [hp]; exact List.mem_cons_of_mem _ List.mem_cons_self))
        clear HRL HX2 HX1 hE h9 p0 p1 p2 p3 p4 p5 p6 p7 p8 p9 p10 r0 r1 r2 r3 r4 r5 r6 r7 r8 r9 r10 rf q0 q1 q2 q3 q4 q5 q6 q7 q8 q9 q10 qf ne1 ne2 ne3 ne4 ne5 ne6
        go_upto_region 15 with (fail)
        clear ec ef
        -- the answer: { T with d := XD }, XE, in world %W (boxes HMR, equation HRR)
        have MR := HMR.out
        obtain ⟨⟨r0, r1, r2, r3, r4⟩, r5, r6, r7, r8, r9, r10⟩ := cellsS (MR.at_ (t := w.heap.size) List.mem_cons_self)
        obtain ⟨ec, ef⟩ := cells1 (MR.at_ (t := e) (List.mem_cons_of_mem _ List.mem_cons_self))
        have hz := MR.at_ (t := w.heap.size + 1) (o := z11) (List.mem_cons_of_mem _ (List.mem_cons_of_mem _ List.mem_cons_self))
        obtain ⟨⟨q0, q1, q2, q3, q4⟩, q5, q6, q7, q8, q9, q10⟩ := cellsS hz
        have qf := frozenS hz
        have ne5 : ¬ (e = w.heap.size + 1) := by have := HNE.out; omega
        have ne6 : ¬ (w.heap.size + 1 = e) := by have := HNE.out; omega
        have ne7 : ¬ (w.heap.size = w.heap.size + 1) := by omega
        have ne8 : ¬ (w.heap.size + 1 = w.heap.size) := by omega
        clear MR hz
        go_region
        all_goals
          go_wp2_with fail
          obtain ⟨Z, hZ, M8⟩ := HMR.out.lay11 (cs' := [(w.heap.size + 1, stO (.slice a17 n17 c17) (.slice a2 n2 c2) { T with d := XD })]) (t := w.heap.size + 1) (List.mem_cons_of_mem _ (List.mem_cons_of_mem _ List.mem_cons_self)) (.slice a17 n17 c17) (.int .i64 XD.c) (.bool XD.a) (.int .i64 XD.l) (.bool XD.x) (.int .i64 T.v) (.slice a2 n2 c2) (.int .i64 T.x) (.int .i64 T.s) (.int .i64 T.z) (.int .u32 T.c) (fun p hp => by
            simp only [List.mem_cons, List.not_mem_nil, or_false] at hp
            subst hp
            exact .inl rfl)
          rw [hZ]
          have M9 := M8.keep (W' := Z.drew) (Below.refl _ _).drew
          obtain ⟨⟨z0, z1, z2, z3, z4⟩, z5, z6, z7, z8, z9, z10⟩ := cellsS (M9.at_ List.mem_cons_self)
          refine bodyPost_ret (v := .tuple #[stVal (.slice a17 n17 c17) (.slice a2 n2 c2) { T with d := XD }, .int .i64 XE]) (by unfold stVal; simp [results, Tryz.results66, go_sem, z0, z1, z2, z3, z4, z5, z6, z7, z8, z9, z10]) rfl ?_
          rw [HRR.out]
          exact ⟨_, _, _, _, _, _, rfl, M9.sts (T := { T with d := XD }) List.mem_cons_self List.mem_cons_self⟩

end Go.Proofs.YthhhocgpoenigaaGreat.Sto

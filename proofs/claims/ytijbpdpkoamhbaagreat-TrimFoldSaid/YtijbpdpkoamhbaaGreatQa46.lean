/-
  Parts of what the laws of this seat stand on: TrmAct, TrmAwp.
-/
import Derived.Test.YtijbpdpkoamhbaaGreatQa1
import Derived.Deep.DeepCutAuto
import Derived.Test.YtijbpdpkoamhbaaGreatQa18
import Derived.Test.YtijbpdpkoamhbaaGreatQa26
import Derived.Test.YtijbpdpkoamhbaaGreatQa40
import Derived.Test.YtijbpdpkoamhbaaGreatQa44
import Derived.Test.YtijbpdpkoamhbaaGreatQa45
import Derived.Test.YtijbpdpkoamhbaaGreatQa6
set_option maxRecDepth 100000
set_option maxHeartbeats 6400000
namespace Go.Proofs.YtijbpdpkoamhbaaGreat
namespace Trm
open Go.RowKit So Dsk Rts Sto
def paz : Lg.Pa := ⟨0, 0, 0, ⟨#[]⟩⟩
def paCells (a : Lg.Pa) : List Value := [.int .i64 a.k, .int .i64 a.n, .int .i64 a.m, .string a.d]
def PaB (a : Lg.Pa) : Prop := (-9223372036854775808 ≤ a.k ∧ a.k ≤ 9223372036854775807) ∧ (-9223372036854775808 ≤ a.n ∧ a.n ≤ 9223372036854775807) ∧ (-9223372036854775808 ≤ a.m ∧ a.m ≤ 9223372036854775807) ∧ a.d.size ≤ 9223372036854775807
def PaL : Lay Lg.Pa where
 enc := paCells
 k := 4
 len := fun _ => rfl
 one := by intro f u hu; simp [paCells] at hu; rcases hu with rfl | rfl | rfl | rfl <;> rfl
 pos := by decide
 T := 62
 ok := PaB
 z := paz
theorem pa_at {w : World} {fa : Option Addr} {fn fc : Nat} {l : List Lg.Pa} (h : IsL PaL w (.slice fa fn fc) l) {i : Nat} (hi : i < fn) :
 ∃ b off, fa = some ⟨b, off, none⟩ ∧ w.cell? ⟨b, off + i * 4, none⟩ = some (.int .i64 (l.getD i paz).k) ∧ w.cell? ⟨b, off + i * 4 + 1, none⟩ = some (.int .i64 (l.getD i paz).n) ∧ w.cell? ⟨b, off + i * 4 + 2, none⟩ = some (.int .i64 (l.getD i paz).m) ∧ w.cell? ⟨b, off + i * 4 + 3, none⟩ = some (.string (l.getD i paz).d) := by
 have h' := h
 obtain ⟨a', cap', e, _, _, h3⟩ := h
 injection e with e1 e2 e3
 rcases h3 with h3 | ⟨b, off, h4, _⟩
 · rw [h3] at e2; simp at e2; omega
 · subst e1
   subst h4
   exact ⟨b, off, rfl, h'.at_ hi 0 _ rfl, h'.at_ hi 1 _ rfl, h'.at_ hi 2 _ rfl, h'.at_ hi 3 _ rfl⟩
def Pr (w : World) (t : Nat) (S : St) (W : World) : Prop := ∃ a n c a' n' c', Ms w w.heap.size (.slice none 0 0) (.slice none 0 0) [(t, stC (.slice a n c) (.slice a' n' c') S), (w.heap.size, zeC)] [(.slice a n c, S.d.f)] [(.slice a' n' c', S.g)] W
theorem Pr.w {w W : World} {t : Nat} {S : St} (h : Pr w t S W) : Below w.heap.size w W := by
 obtain ⟨a, n, c, a', n', c', h⟩ := h
 exact h.w
theorem tw {t t1 : Nat} {o o' o1 : Obj} (h1 : t1 ≠ t) : ∀ q ∈ [(t, o'), (t1, o1)], q = (t, o') ∨ (q ∈ [(t, o), (t1, o1)] ∧ q.1 ≠ t) := fun q hq => by
 rcases List.mem_cons.1 hq with rfl | hq
 · exact .inl rfl
 · rw [List.mem_singleton] at hq
   subst hq
   exact .inr ⟨mcm mcs, h1⟩
theorem pr_lay {w W W' : World} {t : Nat} {S T : St} {a a' b b' : Option Addr} {n c n' c' m d m' d' : Nat} (ht : w.heap.size < t) (h : Ms w w.heap.size (.slice none 0 0) (.slice none 0 0) [(t, stC (.slice a n c) (.slice a' n' c') S), (w.heap.size, zeC)] [(.slice a n c, S.d.f)] [(.slice a' n' c', S.g)] W) (k : StS W (.slice a n c) (.slice a' n' c') T (.slice b m d) (.slice b' m' d') W') :
 ∃ Z, ((((((((((W'.setCell ⟨t, 0, none⟩ (.slice b m d)).setCell ⟨t, 1, none⟩ (.int .i64 T.d.c)).setCell ⟨t, 2, none⟩ (.bool T.d.a)).setCell ⟨t, 3, none⟩ (.int .i64 T.d.l)).setCell ⟨t, 4, none⟩ (.bool T.d.x)).setCell ⟨t, 5, none⟩ (.int .i64 T.v)).setCell ⟨t, 6, none⟩ (.slice b' m' d')).setCell ⟨t, 7, none⟩ (.int .i64 T.x)).setCell ⟨t, 8, none⟩ (.int .i64 T.s)).setCell ⟨t, 9, none⟩ (.int .i64 T.z)).setCell ⟨t, 10, none⟩ (.int .u32 T.c) = Z ∧ Pr w t T Z := by
 obtain ⟨Z, h1, h2⟩ := (h.call2 mcs mcs k).lay11 (t := t) (cs' := [(t, stC (.slice b m d) (.slice b' m' d') T), (w.heap.size, zeC)]) mcs (.slice b m d) (.int .i64 T.d.c) (.bool T.d.a) (.int .i64 T.d.l) (.bool T.d.x) (.int .i64 T.v) (.slice b' m' d') (.int .i64 T.x) (.int .i64 T.s) (.int .i64 T.z) (.int .u32 T.c) (tw (by show w.heap.size ≠ t; omega))
 exact ⟨Z, h1, _, _, _, _, _, _, h2.sub (fun _ h => h) (fun p hp => by rw [List.mem_singleton] at hp; rw [hp]; exact mcs) (fun p hp => by rw [List.mem_singleton] at hp; rw [hp]; exact mcs)⟩
def Ok13 (l : List Lg.Pa) : Prop := l.length ≤ 40 ∧ ∀ a ∈ l, a.d.size ≤ 64
def PlOut (w : World) (q : Int) (l : List Lg.Pa) (e : Ending) (w' : World) : Prop := ∃ a n c a' n' c' S b, e = .returned (.tuple #[stVal (.slice a n c) (.slice a' n' c') S, .bool b]) ∧ Below w.heap.size w w' ∧ (b = true → l.length ≤ 40 ∧ S = Lg.playL q l l.length ∧ StS w (.slice none 0 0) (.slice none 0 0) S (.slice a n c) (.slice a' n' c') w') ∧ (Ok13 l → b = true)
theorem play13_any (q : Int) (pa : Option Addr) (pn pc : Nat) (l : List Lg.Pa) (w : World) (hq : 0 < q ∧ q ≤ 1000) (hl : IsL PaL w (.slice pa pn pc) l) :
 Calls Tryz.prog 7 #[.int .i64 q, .slice pa pn pc] w (PlOut w q l) := by
 have hln := hl.len.1
 have hlm := hl.len.2
 unfold maxLen at hlm
 have HL := zid hl
 have HLN := zid hln
 have CQ := zid fun W : World => rcreate12_any none 0 0 Dp.empty W 0 (IsL.nil W none 0) bd_emp (by decide)
 have G0 := zid (show G13 q 0 0 (createT Dp.empty).1 from G13.new (by omega))
 have HA : ∀ a ∈ l, a.n ≤ 9223372036854775807 := fun a ha => (hl.ok a ha).2.1.2
 have HG := zid fun n (hn : n ≤ 40) => G13.acts hq.1 l HA n hn
 have HOK := zid hl.ok
 have R0 := zid (heap_alloc_new w (.cells #[.slice none 0 0, .int .i64 0, .bool false, .int .i64 0, .bool false, .int .i64 0, .slice none 0 0, .int .i64 0, .int .i64 0, .int .i64 0, .int .u32 0] 32))
 have RB := zid ((Below.refl w.heap.size w).alloc (Nat.le_refl _) (.cells #[.slice none 0 0, .int .i64 0, .bool false, .int .i64 0, .bool false, .int .i64 0, .slice none 0 0, .int .i64 0, .int .i64 0, .int .i64 0, .int .u32 0] 32))
 have HP0 := zid (show Lg.playL q l 0 = (createT Dp.empty).1 from rfl)
 have h10 := Lg.Log.new (q := q) (by omega)
 obtain ⟨⟨S0, E0⟩, hc⟩ : ∃ R, createT Dp.empty = R := ⟨_, rfl⟩
 rw [hc] at CQ HP0
 obtain rfl : E0 = 0 := by have := h10.1; rw [hc] at this; exact this
 dsimp only at HP0
 unfold dkVal at CQ
 clear hl hln HA hc h10 G0
 go_enter Tryz.func7, Tryz.ntmps7
 go_wp2_with fail
 generalize World.alloc w _ = w0 at R0 RB ⊢
 refine (CQ.out _).mono ?_
 rintro e w1 ⟨a1, n1, c1, a2, n2, c2, rfl, ks⟩
 have P1 := zid (show Pr w w1.heap.size S0 (w1.alloc (stC (.slice a1 n1 c1) (.slice a2 n2 c2) S0)) from by
  have M0 : Ms w w.heap.size (.slice none 0 0) (.slice none 0 0) [(w.heap.size, zeC)] [(.slice none 0 0, ([] : List Dp.Fl))] [(.slice none 0 0, ([] : List Rt.Sg))] w0 := ⟨fun p hp => by rw [List.mem_singleton] at hp; subst hp; exact ⟨Nat.le_refl _, R0.out⟩, fun p hp => by rw [List.mem_singleton] at hp; subst hp; exact ⟨IsL.nil _ _ _, fun _ _ => Sep.nil _ _ _, fun _ _ _ _ => Sep.nil _ _ _⟩, fun p hp => by rw [List.mem_singleton] at hp; subst hp; exact ⟨IsL.nil _ _ _, fun _ _ => Sep.nil _ _ _, fun _ _ _ _ => Sep.nil _ _ _⟩, RB.out.size, RB.out⟩
  have M1 := (M0.call2 mcs mcs ks).alloc #[.slice a1 n1 c1, .int .i64 S0.d.c, .bool S0.d.a, .int .i64 S0.d.l, .bool S0.d.x, .int .i64 S0.v, .slice a2 n2 c2, .int .i64 S0.x, .int .i64 S0.s, .int .i64 S0.z, .int .u32 S0.c] 32
  exact ⟨_, _, _, _, _, _, M1.sub (fun _ h => h) (fun p hp => by rw [List.mem_singleton] at hp; rw [hp]; exact mcs) (fun p hp => by rw [List.mem_singleton] at hp; rw [hp]; exact mcs)⟩)
 have htt : w.heap.size < w1.heap.size := Nat.lt_of_lt_of_le (Array.getElem?_eq_some_iff.1 R0.out).1 ks.w.size
 clear ks R0 RB CQ
 unfold stVal
 unfold stC at P1
 dsimp only
 go_upto_region 2 with (fail)
 generalize w1.alloc _ = W1 at P1 ⊢
 generalize w1.heap.size = t at P1 htt ⊢
 by_cases h40 : 40 < pn
 case pos =>
  have hi : (40 : Int) < (pn : Int) := by omega
  obtain ⟨a, n, c, a', n', c', M⟩ := P1.out
  have HM := zid M
  obtain ⟨⟨k0, k1, k2, k3, k4⟩, k5, k6, k7, k8, k9, k10⟩ := cellsS (M.at_ (t := t) mcs)
  obtain ⟨⟨q0, q1, q2, q3, q4⟩, q5, q6, q7, q8, q9, q10⟩ := cellsS (M.at_ (t := w.heap.size) (mcm mcs))
  have qf := frozenS (M.at_ (t := w.heap.size) (mcm mcs))
  have HNO := zid (show ¬ Ok13 l from fun h => by have := h.1; have := HLN.out; omega)
  clear M P1 h40 HOK HG HL HLN HP0
  go_wp2_with fail
  obtain ⟨Z, hZ, Z1⟩ := HM.out.lay11 (t := w.heap.size) (cs' := [(w.heap.size, stC (.slice a n c) (.slice a' n' c') S0)]) (mcm mcs) (.slice a n c) (.int .i64 S0.d.c) (.bool S0.d.a) (.int .i64 S0.d.l) (.bool S0.d.x) (.int .i64 S0.v) (.slice a' n' c') (.int .i64 S0.x) (.int .i64 S0.s) (.int .i64 S0.z) (.int .u32 S0.c) (fun p hp => .inl (List.mem_singleton.1 hp))
  rw [hZ]
  obtain ⟨⟨z0, z1, z2, z3, z4⟩, z5, z6, z7, z8, z9, z10⟩ := cellsS (Z1.at_ (t := w.heap.size) mcs)
  refine bodyPost_ret (v := .tuple #[.agg #[.slice a n c, .int .i64 S0.d.c, .bool S0.d.a, .int .i64 S0.d.l, .bool S0.d.x, .int .i64 S0.v, .slice a' n' c', .int .i64 S0.x, .int .i64 S0.s, .int .i64 S0.z, .int .u32 S0.c], .bool false]) (by simp [results, Tryz.results7, go_sem, z0, z1, z2, z3, z4, z5, z6, z7, z8, z9, z10]) rfl ?_
  exact ⟨_, _, _, _, _, _, S0, false, rfl, Z1.w, fun h => (by cases h), fun h => absurd h HNO.out⟩
 case neg =>
 have hp40 : pn ≤ 40 := by omega
 have hi : ¬ (40 : Int) < (pn : Int) := by omega
 have P2 := zid (show Pr w t (Lg.playL q l 0) W1 from by rw [HP0.out]; exact P1.out)
 clear P1 h40 hlm HP0
 go_wp2_with fail
 go_loopw [8] (fun i wr => ∃ k : Nat, k ≤ pn ∧ i = .int .i64 k ∧ Hid (Pr w t (Lg.playL q l k) wr)) (fun i _ => pn - (intOf i).toNat)
 case atStart => exact ⟨0, Nat.zero_le _, rfl, P2⟩
 case round =>
  clear P2 hi
  obtain ⟨k, hk, rfl, HP⟩ := hrel
  by_cases hlt : k < pn
  · obtain ⟨ab, ao, rfl, c0, c1, c2, c3⟩ := pa_at (HL.out.keep HP.out.w) hlt
    have hab := block_lt_of_cell c0
    have hGk := HG.out k (by omega)
    have hac : PaB (l.getD k paz) := HOK.out _ (by rw [getD_lt (by rw [← HLN.out]; exact hlt)]; exact List.getElem_mem _)
    have HS := zid (show Lg.playL q l (k + 1) = Lg.playA q k (Lg.playL q l k) (l.getD k paz) from Lg.playL_succ q l k)
    have HMEM := zid (show l.getD k paz ∈ l from by rw [getD_lt (by rw [← HLN.out]; exact hlt)]; exact List.getElem_mem _)
    obtain ⟨S, hS⟩ : ∃ S, Lg.playL q l k = S := ⟨_, rfl⟩
    rw [hS] at HP hGk HS
    have HSS := zid hS
    generalize l.getD k paz = ac at *
    have HAC := zid hac
    have hdz : ac.d.size ≤ 9223372036854775807 := hac.2.2.2
    have HGK := zid hGk
    clear hS hac hGk
    have HNO := zid (show 64 < ac.d.size → ¬ Ok13 l from fun hd h => by have := h.2 ac HMEM.out; omega)
    by_cases hd : 64 < ac.d.size
    case pos =>
     have hdi : (64 : Int) < (ac.d.size : Int) := by omega
     replace HNO := zid (HNO.out hd)
     obtain ⟨a, n, c, a', n', c', M⟩ := HP.out
     have HM := zid M
     obtain ⟨⟨k0, k1, k2, k3, k4⟩, k5, k6, k7, k8, k9, k10⟩ := cellsS (M.at_ (t := t) mcs)
     obtain ⟨⟨q0, q1, q2, q3, q4⟩, q5, q6, q7, q8, q9, q10⟩ := cellsS (M.at_ (t := w.heap.size) (mcm mcs))
     have qf := frozenS (M.at_ (t := w.heap.size) (mcm mcs))
     clear M HP hd
     go_wp2_with fail
     obtain ⟨Z, hZ, Z1⟩ := HM.out.lay11 (t := w.heap.size) (cs' := [(w.heap.size, stC (.slice a n c) (.slice a' n' c') S)]) (mcm mcs) (.slice a n c) (.int .i64 S.d.c) (.bool S.d.a) (.int .i64 S.d.l) (.bool S.d.x) (.int .i64 S.v) (.slice a' n' c') (.int .i64 S.x) (.int .i64 S.s) (.int .i64 S.z) (.int .u32 S.c) (fun p hp => .inl (List.mem_singleton.1 hp))
     rw [hZ]
     obtain ⟨⟨z0, z1, z2, z3, z4⟩, z5, z6, z7, z8, z9, z10⟩ := cellsS (Z1.at_ (t := w.heap.size) mcs)
     refine bodyPost_ret (v := .tuple #[.agg #[.slice a n c, .int .i64 S.d.c, .bool S.d.a, .int .i64 S.d.l, .bool S.d.x, .int .i64 S.v, .slice a' n' c', .int .i64 S.x, .int .i64 S.s, .int .i64 S.z, .int .u32 S.c], .bool false]) (by simp [results, Tryz.results7, go_sem, z0, z1, z2, z3, z4, z5, z6, z7, z8, z9, z10]) rfl ?_
     exact ⟨_, _, _, _, _, _, S, false, rfl, Z1.w, fun h => (by cases h), fun h => absurd h HNO.out⟩
    case neg =>
    have hdi : ¬ (64 : Int) < (ac.d.size : Int) := by omega
    clear hd HNO HMEM
    obtain ⟨a, n, c, a', n', c', M⟩ := HP.out
    have HM := zid M
    have hne := HGK.out.ne
    have hstb := HGK.out.stb hq.2 (by omega) (by omega)
    have hbd := HGK.out.d
    have hvv := HGK.out.v
    by_cases hk1 : ac.k = 1
    case pos =>
     have e1 : (ac.k == 1) = true := by simpa using hk1
     have SY := fun (W : World) (h1 : IsL FL W (.slice a n c) S.d.f) (h2 : IsL SL W (.slice a' n' c') S.g) => rsync12_any a a' n c n' c' S W _ h1 h2 hne hstb hbd (by omega)
     have HT : Lg.playA q k S ac = (syncT S).1 := by unfold Lg.playA; rw [if_pos hk1]
     obtain ⟨⟨T, E⟩, hT⟩ : ∃ R, syncT S = R := ⟨_, rfl⟩
     rw [hT] at SY HT
     replace HS := zid (HS.out.trans HT)
     unfold stVal at SY
     replace SY := zid SY
     obtain ⟨⟨k0, k1, k2, k3, k4⟩, k5, k6, k7, k8, k9, k10⟩ := cellsS (M.at_ (t := t) mcs)
     clear M HP hT HT hk1 hne hstb hbd hvv
     go_wp2_with fail
     refine (SY.out _ (HM.out.fl mcs) (HM.out.sl mcs)).mono ?_
     rintro e w5 ⟨b5, n5, d5, b6, n6, d6, rfl, ks⟩
     have LY := zid (pr_lay htt HM.out ks)
     have kf := frozenS (hkeep (HM.out.at_ (t := t) mcs) ks.w)
     have kk := cellsS (hkeep (HM.out.at_ (t := t) mcs) ks.w)
     clear k0 k1 k2 k3 k4 k5 k6 k7 k8 k9 k10 ks SY
     obtain ⟨⟨k0, k1, k2, k3, k4⟩, k5, k6, k7, k8, k9, k10⟩ := kk
     unfold stVal
     go_upto_region 6 with (fail)
     obtain ⟨Z, hZ, PZ⟩ := LY.out
     rw [hZ]
     have HPZ := zid PZ
     clear hZ PZ LY k0 k1 k2 k3 k4 k5 k6 k7 k8 k9 k10 kf
     go_wp2_with fail
     go_roundw
     case rel => exact ⟨k + 1, by omega, by go_num, zid (by rw [HS.out]; exact HPZ.out)⟩
     case measure => simp [intOf]; omega
    case neg =>
    have e1 : (ac.k == 1) = false := by simpa using hk1
    by_cases hk2 : ac.k = 2
    case pos =>
     have e2 : (ac.k == 2) = true := by simpa using hk2
     have hpk := Lg.pickN_is S.g ac.n ac.m
     have hpl := hpk.lt.2 (List.length_pos_iff.2 hne)
     have hw : fewP (Lg.stateT S (Lg.trimF S (Lg.pickN S.g ac.n ac.m))) = true ∧ (Lg.trimB S (Lg.pickN S.g ac.n ac.m)).length ≤ 3000 := by
      obtain ⟨F, s0, rs, hL, hl⟩ := HGK.out.log
      exact log_wants hL (by omega) hpl
     have TR := fun (W : World) (h1 : IsL FL W (.slice a n c) S.d.f) (h2 : IsL SL W (.slice a' n' c') S.g) => rtrim13_any a a' n c n' c' S ac.n ac.m (Lg.pickN S.g ac.n ac.m) W _ h1 h2 hne hstb hbd (by omega) (by omega) (HGK.out.may hq.2 (by omega)) hpk hw.1 hw.2
     have HT : Lg.playA q k S ac = (Lg.trimK S (Lg.pickN S.g ac.n ac.m)).1 := by unfold Lg.playA; rw [if_neg hk1, if_pos hk2]; rfl
     obtain ⟨⟨T, E⟩, hT⟩ : ∃ R, Lg.trimK S (Lg.pickN S.g ac.n ac.m) = R := ⟨_, rfl⟩
     rw [hT] at TR HT
     replace HS := zid (HS.out.trans HT)
     unfold stVal at TR
     replace TR := zid TR
     clear M HP hT HT hk1 hk2 hne hstb hbd hvv hpk hpl hw
     go_upto_region 14 with (fail)
     have PD := zid (HM.out.keep (W' := wr.drew) (Below.refl _ _).drew)
     obtain ⟨⟨k0, k1, k2, k3, k4⟩, k5, k6, k7, k8, k9, k10⟩ := cellsS (PD.out.at_ (t := t) mcs)
     replace c0 := show wr.drew.cell? ⟨ab, ao + k * 4, none⟩ = _ from c0
     replace c1 := show wr.drew.cell? ⟨ab, ao + k * 4 + 1, none⟩ = _ from c1
     replace c2 := show wr.drew.cell? ⟨ab, ao + k * 4 + 2, none⟩ = _ from c2
     replace c3 := show wr.drew.cell? ⟨ab, ao + k * 4 + 3, none⟩ = _ from c3
     go_region_with (first | (go_at_call 10; refine (TR.out _ (PD.out.fl mcs) (PD.out.sl mcs)).mono ?_; rintro e w5 ⟨b5, n5, d5, b6, n6, d6, rfl, ks⟩; have LY := zid (pr_lay htt PD.out ks); have mf := frozenS (hkeep (PD.out.at_ (t := t) mcs) ks.w); have mk := cellsS (hkeep (PD.out.at_ (t := t) mcs) ks.w); clear ks; obtain ⟨⟨m0, m1, m2, m3, m4⟩, m5, m6, m7, m8, m9, m10⟩ := mk; unfold stVal))
     all_goals
      go_upto_region 6 with (fail)
      obtain ⟨Z, hZ, PZ⟩ := LY.out
      rw [hZ]
      have HPZ := zid PZ
      clear hZ PZ LY k0 k1 k2 k3 k4 k5 k6 k7 k8 k9 k10 m0 m1 m2 m3 m4 m5 m6 m7 m8 m9 m10 mf
      go_wp2_with fail
      go_roundw
      case rel => exact ⟨k + 1, by omega, by go_num, zid (by rw [HS.out]; exact HPZ.out)⟩
      case measure => simp [intOf]; omega
    case neg =>
    have e2 : (ac.k == 2) = false := by simpa using hk2
    by_cases hk3 : ac.k = 3
    case pos =>
     have e3 : (ac.k == 3) = true := by simpa using hk3
     have AR := fun (W : World) (h1 : IsL FL W (.slice a n c) S.d.f) => Dsk.rarm_val (.slice a n c) S.d ac.n W h1
     have HT : Lg.playA q k S ac = { S with d := Dp.arm S.d ac.n } := by unfold Lg.playA; rw [if_neg hk1, if_neg hk2, if_pos hk3]
     replace HS := zid (HS.out.trans HT)
     unfold dkVal at AR
     replace AR := zid AR
     clear M HP HT hk1 hk2 hk3 hne hstb hbd hvv
     go_upto_region 16 with (fail)
     have PD := zid (HM.out.keep (W' := wr.drew) (Below.refl _ _).drew)
     obtain ⟨⟨k0, k1, k2, k3, k4⟩, k5, k6, k7, k8, k9, k10⟩ := cellsS (PD.out.at_ (t := t) mcs)
     replace c0 := show wr.drew.cell? ⟨ab, ao + k * 4, none⟩ = _ from c0
     replace c1 := show wr.drew.cell? ⟨ab, ao + k * 4 + 1, none⟩ = _ from c1
     go_region_with (first | (go_at_call 25; refine (AR.out _ (PD.out.fl mcs)).mono ?_; rintro e w5 ⟨rfl, b5⟩; have P5 := zid (PD.out.keep b5); have mf := frozenS (P5.out.at_ (t := t) mcs); have mk := cellsS (P5.out.at_ (t := t) mcs); clear b5; obtain ⟨⟨m0, m1, m2, m3, m4⟩, m5, m6, m7, m8, m9, m10⟩ := mk))
     all_goals
      go_upto_region 6 with (fail)
      obtain ⟨Z, hZ, MZ⟩ := P5.out.layD (t := t) (cs' := [(t, stC (.slice a n c) (.slice a' n' c') { S with d := Dp.arm S.d ac.n }), (w.heap.size, zeC)]) mcs (.slice a n c) (.int .i64 (Dp.arm S.d ac.n).c) (.bool (Dp.arm S.d ac.n).a) (.int .i64 (Dp.arm S.d ac.n).l) (.bool (Dp.arm S.d ac.n).x) (tw (by show w.heap.size ≠ t; omega))
      rw [hZ]
      have HPZ := zid (show Pr w t { S with d := Dp.arm S.d ac.n } Z from ⟨_, _, _, _, _, _, MZ⟩)
      clear hZ MZ P5 k0 k1 k2 k3 k4 k5 k6 k7 k8 k9 k10 m0 m1 m2 m3 m4 m5 m6 m7 m8 m9 m10 mf
      go_wp2_with fail
      go_roundw
      case rel => exact ⟨k + 1, by omega, by go_num, zid (by rw [HS.out]; exact HPZ.out)⟩
      case measure => simp [intOf]; omega
    case neg =>
    have e3 : (ac.k == 3) = false := by simpa using hk3
    by_cases hk4 : ac.k = 4
    case pos =>
     have e4 : (ac.k == 4) = true := by simpa using hk4
     have AR := fun (W : World) (h1 : IsL FL W (.slice a n c) S.d.f) => Dsk.rlimit_val (.slice a n c) S.d ac.n W h1
     have HT : Lg.playA q k S ac = { S with d := Dp.limit S.d ac.n } := by unfold Lg.playA; rw [if_neg hk1, if_neg hk2, if_neg hk3, if_pos hk4]
     replace HS := zid (HS.out.trans HT)
     unfold dkVal at AR
     replace AR := zid AR
     clear M HP HT hk1 hk2 hk3 hk4 hne hstb hbd hvv
     go_upto_region 18 with (fail)
     have PD := zid (HM.out.keep (W' := wr.drew) (Below.refl _ _).drew)
     obtain ⟨⟨k0, k1, k2, k3, k4⟩, k5, k6, k7, k8, k9, k10⟩ := cellsS (PD.out.at_ (t := t) mcs)
     replace c0 := show wr.drew.cell? ⟨ab, ao + k * 4, none⟩ = _ from c0
     replace c1 := show wr.drew.cell? ⟨ab, ao + k * 4 + 1, none⟩ = _ from c1
     go_region_with (first | (go_at_call 26; refine (AR.out _ (PD.out.fl mcs)).mono ?_; rintro e w5 ⟨rfl, b5⟩; have P5 := zid (PD.out.keep b5); have mf := frozenS (P5.out.at_ (t := t) mcs); have mk := cellsS (P5.out.at_ (t := t) mcs); clear b5; obtain ⟨⟨m0, m1, m2, m3, m4⟩, m5, m6, m7, m8, m9, m10⟩ := mk))
     all_goals
      go_upto_region 6 with (fail)
      obtain ⟨Z, hZ, MZ⟩ := P5.out.layD (t := t) (cs' := [(t, stC (.slice a n c) (.slice a' n' c') { S with d := Dp.limit S.d ac.n }), (w.heap.size, zeC)]) mcs (.slice a n c) (.int .i64 (Dp.limit S.d ac.n).c) (.bool (Dp.limit S.d ac.n).a) (.int .i64 (Dp.limit S.d ac.n).l) (.bool (Dp.limit S.d ac.n).x) (tw (by show w.heap.size ≠ t; omega))
      rw [hZ]
      have HPZ := zid (show Pr w t { S with d := Dp.limit S.d ac.n } Z from ⟨_, _, _, _, _, _, MZ⟩)
      clear hZ MZ P5 k0 k1 k2 k3 k4 k5 k6 k7 k8 k9 k10 m0 m1 m2 m3 m4 m5 m6 m7 m8 m9 m10 mf
      go_wp2_with fail
      go_roundw
      case rel => exact ⟨k + 1, by omega, by go_num, zid (by rw [HS.out]; exact HPZ.out)⟩
      case measure => simp [intOf]; omega
    case neg =>
     have e4 : (ac.k == 4) = false := by simpa using hk4
     have hxb := hstb.x
     have AP := fun (W : World) (h1 : IsL FL W (.slice a n c) S.d.f) (h2 : IsL SL W (.slice a' n' c') S.g) => rappend12_any a a' n c n' c' S q ⟨S.x, k, ac.d⟩ W _ h1 h2 hne hstb hbd (by omega) (by omega) ⟨by show _ ≤ S.x; omega, by show S.x ≤ _; omega, by show _ ≤ (k : Int); omega, by show (k : Int) ≤ _; omega, hdz⟩
     have HT : Lg.playA q k S ac = (So.append S q ⟨S.x, k, ac.d⟩).1 := by unfold Lg.playA; rw [if_neg hk1, if_neg hk2, if_neg hk3, if_neg hk4]
     obtain ⟨⟨T, E⟩, hT⟩ : ∃ R, So.append S q ⟨S.x, k, ac.d⟩ = R := ⟨_, rfl⟩
     rw [hT] at AP HT
     replace HS := zid (HS.out.trans HT)
     unfold stVal recVal at AP
     dsimp only at AP
     replace AP := zid AP
     clear M HP hT HT hk1 hk2 hk3 hk4 hne hstb hbd hvv hxb
     go_upto_region 10 with (fail)
     have PD := zid (HM.out.keep (W' := wr.drew) (Below.refl _ _).drew)
     obtain ⟨⟨k0, k1, k2, k3, k4⟩, k5, k6, k7, k8, k9, k10⟩ := cellsS (PD.out.at_ (t := t) mcs)
     replace c0 := show wr.drew.cell? ⟨ab, ao + k * 4, none⟩ = _ from c0
     replace c1 := show wr.drew.cell? ⟨ab, ao + k * 4 + 1, none⟩ = _ from c1
     replace c2 := show wr.drew.cell? ⟨ab, ao + k * 4 + 2, none⟩ = _ from c2
     replace c3 := show wr.drew.cell? ⟨ab, ao + k * 4 + 3, none⟩ = _ from c3
     go_region_with (first | (go_at_call 21; refine (AP.out _ (PD.out.fl mcs) (PD.out.sl mcs)).mono ?_; rintro e w5 ⟨b5, n5, d5, b6, n6, d6, rfl, ks⟩; have LY := zid (pr_lay htt PD.out ks); have mf := frozenS (hkeep (PD.out.at_ (t := t) mcs) ks.w); have mk := cellsS (hkeep (PD.out.at_ (t := t) mcs) ks.w); clear ks; obtain ⟨⟨m0, m1, m2, m3, m4⟩, m5, m6, m7, m8, m9, m10⟩ := mk; unfold stVal))
     all_goals
      go_upto_region 6 with (fail)
      obtain ⟨Z, hZ, PZ⟩ := LY.out
      rw [hZ]
      have HPZ := zid PZ
      clear hZ PZ LY k0 k1 k2 k3 k4 k5 k6 k7 k8 k9 k10 m0 m1 m2 m3 m4 m5 m6 m7 m8 m9 m10 mf
      go_wp2_with fail
      go_roundw
      case rel => exact ⟨k + 1, by omega, by go_num, zid (by rw [HS.out]; exact HPZ.out)⟩
      case measure => simp [intOf]; omega
  · obtain rfl : k = pn := by omega
    have HLE := zid (show Lg.playL q l k = Lg.playL q l l.length by rw [← HLN.out])
    obtain ⟨S, hS⟩ : ∃ S, Lg.playL q l k = S := ⟨_, rfl⟩
    rw [hS] at HP HLE
    obtain ⟨a, n, c, a', n', c', M⟩ := HP.out
    have HM := zid M
    obtain ⟨⟨k0, k1, k2, k3, k4⟩, k5, k6, k7, k8, k9, k10⟩ := cellsS (M.at_ (t := t) mcs)
    obtain ⟨⟨q0, q1, q2, q3, q4⟩, q5, q6, q7, q8, q9, q10⟩ := cellsS (M.at_ (t := w.heap.size) (mcm mcs))
    have qf := frozenS (M.at_ (t := w.heap.size) (mcm mcs))
    clear M HP hS
    go_wp2_with fail
    obtain ⟨Z, hZ, Z1⟩ := HM.out.lay11 (t := w.heap.size) (cs' := [(w.heap.size, stC (.slice a n c) (.slice a' n' c') S)]) (mcm mcs) (.slice a n c) (.int .i64 S.d.c) (.bool S.d.a) (.int .i64 S.d.l) (.bool S.d.x) (.int .i64 S.v) (.slice a' n' c') (.int .i64 S.x) (.int .i64 S.s) (.int .i64 S.z) (.int .u32 S.c) (fun p hp => .inl (List.mem_singleton.1 hp))
    rw [hZ]
    obtain ⟨⟨z0, z1, z2, z3, z4⟩, z5, z6, z7, z8, z9, z10⟩ := cellsS (Z1.at_ (t := w.heap.size) mcs)
    refine bodyPost_ret (v := .tuple #[.agg #[.slice a n c, .int .i64 S.d.c, .bool S.d.a, .int .i64 S.d.l, .bool S.d.x, .int .i64 S.v, .slice a' n' c', .int .i64 S.x, .int .i64 S.s, .int .i64 S.z, .int .u32 S.c], .bool true]) (by simp [results, Tryz.results7, go_sem, z0, z1, z2, z3, z4, z5, z6, z7, z8, z9, z10]) rfl ?_
    exact ⟨_, _, _, _, _, _, S, true, rfl, Z1.w, fun _ => ⟨by rw [← HLN.out]; exact hp40, HLE.out, Z1.sts mcs mcs⟩, fun _ => rfl⟩
end Trm
namespace Trm
open Go.RowKit So Dp
def NF (e : Int) : Prop := e ≠ 9 ∧ e ≠ 10
theorem nf {o : Int} (h1 : o ≠ 9) (h2 : o ≠ 10) : NF o := ⟨h1, h2⟩
theorem nf0 : NF 0 := ⟨by decide, by decide⟩
theorem nf1 : NF 1 := ⟨by decide, by decide⟩
theorem nf13 : NF 13 := ⟨by decide, by decide⟩
structure Ck (X : Dk × Int) : Prop where
 c : So.Calm X.1
 n : NF X.2
theorem nf_change {D : Dk} (h : So.Calm D) (l : List Fl) {o : Int} (ho : NF o) : NF (change D l o).2 := by
 unfold change
 rw [if_neg (by rw [h.x]; decide)]
 split
 · exact ho
 · rw [if_neg (by rw [h.a]; simp), if_neg (by rw [h.a]; decide)]
   exact nf0
section
variable {D : Dk} (h : So.Calm D)
include h
theorem ck_create (n : ByteArray) : Ck (create D n) := by
 refine ⟨calm_create h n, ?_⟩
 unfold create
 split
 · exact nf_change h _ (nf (by decide) (by decide))
 · split
   · exact nf_change h _ (nf (by decide) (by decide))
   · exact nf_change h _ (nf (by decide) (by decide))
theorem ck_append (n s : ByteArray) : Ck (Dp.append D n s) := by
 refine ⟨calm_append h n s, ?_⟩
 unfold Dp.append
 split
 · exact nf_change h _ (nf (by decide) (by decide))
 · rw [if_neg (by rw [h.c]; exact fun k => absurd k.1 (by decide))]
   exact nf_change h _ (nf (by decide) (by decide))
theorem ck_sync (n : ByteArray) : Ck (sync D n) := by
 refine ⟨calm_sync h n, ?_⟩
 unfold sync
 split <;> exact nf_change h _ (nf (by decide) (by decide))
theorem ck_delete (n : ByteArray) : Ck (delete D n) := by
 refine ⟨calm_delete h n, ?_⟩
 unfold delete
 split <;> exact nf_change h _ (nf (by decide) (by decide))
theorem ck_rename (n m : ByteArray) : Ck (rename D n m) := by
 refine ⟨calm_rename h n m, ?_⟩
 unfold rename
 split
 · exact nf_change h _ (nf (by decide) (by decide))
 · split
   · exact nf_change h _ (nf (by decide) (by decide))
   · exact nf_change h _ (nf (by decide) (by decide))
end
theorem ck_tk {X R : Dk × Int} (h : Ck X) (k : Ck R) : Ck (tk X R) := by
 unfold tk
 split
 · exact k
 · exact h
theorem ck_swap {D : Dk} (h : So.Calm D) (m : Qm.Mn) : Ck (swap D m) := by
 have h0 : Ck (D, (Qm.putM m).2) := ⟨h, by
  by_cases hm : Qm.Ok m
  · rw [Qm.putM_yes hm]; exact nf0
  · rw [Qm.putM_no hm]; exact nf1⟩
 have h1 : Ck (if (get D.f nn).isSome = true then tk (D, (Qm.putM m).2) (delete D nn) else (D, (Qm.putM m).2)) := by
  split
  · exact ck_tk h0 (ck_delete h nn)
  · exact h0
 rw [swap_p]
 unfold swapP swapX
 dsimp only
 have h2 := ck_tk h1 (ck_create h1.c nn)
 have h3 := ck_tk h2 (ck_append h2.c nn ⟨(Qm.putM m).1.toArray⟩)
 have h4 := ck_tk h3 (ck_sync h3.c nn)
 rw [if_neg h3.n.1]
 exact ck_tk h4 (ck_rename h4.c nn nm)
theorem ck_roll {S : St} (h : So.Calm S.d) (hg : ¬ 64 ≤ S.g.length) : So.Calm (roll S).1.d ∧ NF (roll S).2 := by
 have h0 : Ck ((syncT S).1.d, (syncT S).2) := ck_sync h _
 have h1 := ck_tk h0 (ck_create h0.c (segN (syncT S).1.x))
 have h2 := ck_tk h1 (ck_swap h1.c (man (more (syncT S).1 (tk ((syncT S).1.d, (syncT S).2) (create (syncT S).1.d (segN (syncT S).1.x))).1)))
 rw [roll_p]
 unfold rollP
 rw [if_neg hg]
 dsimp only
 split
 · exact ⟨h2.c, nf0⟩
 · rw [if_neg h2.n.1]
   exact ⟨h2.c, h2.n⟩
theorem roll_g {S : St} (h : (roll S).2 = 0) : (roll S).1.g = S.g ++ [⟨S.x, 0, 0⟩] := by
 rw [roll_p] at h ⊢
 unfold rollP at h ⊢
 by_cases hg : 64 ≤ S.g.length
 · rw [if_pos hg] at h; cases h
 rw [if_neg hg] at h ⊢
 dsimp only at h ⊢
 split at h
 · rename_i hz
   rw [if_pos hz]
   rfl
 · rename_i hz
   split at h
   · exact absurd h (wo_ne _ _)
   · exact absurd h hz
theorem ck_app {S : St} (h : So.Calm S.d) (hg : ¬ 64 ≤ S.g.length) (q : Int) (r : Rp.Rec) : So.Calm (So.append S q r).1.d ∧ NF (So.append S q r).2 := by
 have hR := ck_roll h hg
 rw [app_p]
 unfold appP
 split
 · exact ⟨h, nf1⟩
 split
 · exact ⟨h, nf13⟩
 dsimp only
 by_cases hq : q ≤ (lastG S).z
 · simp only [if_pos hq]
   have hX := ck_tk (X := ((roll S).1.d, (roll S).2)) ⟨hR.1, hR.2⟩ (ck_append hR.1 (segN (lastG (roll S).1).b) ⟨(Rp.putB r).toArray⟩)
   split
   · exact ⟨hX.c, hX.n⟩
   · exact ⟨hX.c, nf0⟩
 · simp only [if_neg hq]
   have hX := ck_tk (X := (S.d, 0)) ⟨h, nf0⟩ (ck_append h (segN (lastG S).b) ⟨(Rp.putB r).toArray⟩)
   split
   · exact ⟨hX.c, hX.n⟩
   · exact ⟨hX.c, nf0⟩
theorem app_g {S : St} {q : Int} {r : Rp.Rec} (h : (So.append S q r).2 = 0) : (So.append S q r).1.g = grown (if q ≤ (lastG S).z then S.g ++ [⟨S.x, 0, 0⟩] else S.g) (Rp.putB r).length := by
 rw [app_p] at h ⊢
 unfold appP at h ⊢
 split at h
 · cases h
 rename_i h1
 rw [if_neg h1]
 split at h
 · cases h
 rename_i h2
 rw [if_neg h2]
 dsimp only at h ⊢
 by_cases hq : q ≤ (lastG S).z
 · simp only [if_pos hq] at h ⊢
   split at h
   · rename_i hx
     exact absurd h hx
   · rename_i hx
     rw [if_neg hx]
     have hz : (roll S).2 = 0 := by
      apply Classical.byContradiction
      intro hn
      refine hx ?_
      have e : (((roll S).1.d, (roll S).2) : Dk × Int).2 ≠ 0 := hn
      rw [tk_no e]
      exact hn
     show grown (roll S).1.g _ = _
     rw [roll_g hz]
 · simp only [if_neg hq] at h ⊢
   split at h
   · rename_i hx
     exact absurd h hx
   · rename_i hx
     rw [if_neg hx]
theorem app_ok {q F : Int} {S : St} {s0 : List Fp.Pr} {rs : List Rp.Rec} (h : Lg.Log q S F s0 rs) (hc : So.Calm S.d) (hq : 0 < q) (hv : S.v < 1099511627776) (hg : ¬ 64 ≤ S.g.length) {r : Rp.Rec} (hr : Rp.Ok r) (ha : r.a = S.x) (hx : S.x < 1099511627776) :
 (So.append S q r).2 = 0 ∧ Lg.Log q (So.append S q r).1 F s0 (rs ++ [r]) := by
 have hn := (ck_app hc hg q r).2
 obtain ⟨_, _, h3⟩ := h.append hq hv r
 rcases h3 with ⟨h0, _, _, h3⟩ | ⟨_, _, h4⟩
 · exact ⟨h0, h3⟩
 · rcases h4 with h4 | h4 | h4 | h4
   · exact absurd ⟨hr, ha⟩ h4
   · omega
   · exact absurd h4 hn.1
   · exact absurd h4 hn.2
theorem ck_placed {D : Dk} (h : So.Calm D) (n s : ByteArray) (m : Qm.Mn) : Ck (placedP D n s m) := by
 have h1 := ck_tk (X := (D, 0)) ⟨h, nf0⟩ (ck_create h n)
 have h2 := ck_tk h1 (ck_append h1.c n s)
 have h3 := ck_tk h2 (ck_sync h2.c n)
 have h4 := ck_tk h3 (ck_swap h3.c m)
 unfold placedP
 dsimp only
 rw [if_neg h4.n.1]
 exact h4
theorem ck_freed : ∀ (l : List ByteArray) {X : Dk × Int}, Ck X → Ck (l.foldl (fun X n => tk X (delete X.1 n)) X)
 | [], _, h => h
 | n :: l, X, h => by rw [List.foldl_cons]; exact ck_freed l (ck_tk h (ck_delete h.c n))
theorem nf_trim {S : St} (h : So.Calm S.d) (p : Nat) : NF (Lg.trimK S p).2 := by
 have h3 : Ck (Lg.trim3 S p) := by rw [trim3_p]; exact ck_placed h _ _ _
 have h4 : Ck (Lg.trim4 S p (Lg.trim3 S p).1) := by rw [trim4_p]; exact ck_freed _ ⟨h3.c, nf0⟩
 unfold Lg.trimK
 split
 · exact nf0
 split
 · exact h3.n
 · exact h4.n
def awL : List Lg.Pa := [⟨0, 0, 0, ⟨#[97, 49]⟩⟩, ⟨0, 0, 0, ⟨#[97, 50]⟩⟩, ⟨0, 0, 0, ⟨#[98, 51]⟩⟩, ⟨0, 0, 0, ⟨#[99, 52]⟩⟩, ⟨0, 0, 0, ⟨#[99]⟩⟩, ⟨0, 0, 0, ⟨#[100, 53]⟩⟩, ⟨0, 0, 0, ⟨#[101]⟩⟩]
def awR (k : Nat) : Rp.Rec := ⟨(k : Int), (k : Int), (awL.getD k ⟨0, 0, 0, ⟨#[]⟩⟩).d⟩
def awG : Nat → List Rt.Sg
 | 0 => [⟨0, 0, 0⟩]
 | 1 => [⟨0, 1, 9⟩]
 | 2 => [⟨0, 2, 18⟩]
 | 3 => [⟨0, 3, 27⟩]
 | 4 => [⟨0, 4, 36⟩]
 | 5 => [⟨0, 4, 36⟩, ⟨4, 1, 8⟩]
 | 6 => [⟨0, 4, 36⟩, ⟨4, 2, 17⟩]
 | _ => [⟨0, 4, 36⟩, ⟨4, 3, 25⟩]
theorem awG_step : ∀ k, k < 7 → grown (if 30 ≤ ((awG k).getD ((awG k).length - 1) Rt.zero).z then awG k ++ [⟨(k : Int), 0, 0⟩] else awG k) (Rp.putB (awR k)).length = awG (k + 1)
 | 0, _ => by kernel_rfl
 | 1, _ => by kernel_rfl
 | 2, _ => by kernel_rfl
 | 3, _ => by kernel_rfl
 | 4, _ => by kernel_rfl
 | 5, _ => by kernel_rfl
 | 6, _ => by kernel_rfl
theorem awG_len (k : Nat) : (awG k).length ≤ 2 := by unfold awG; split <;> decide
theorem awL_k : ∀ k, k < 7 → (awL.getD k ⟨0, 0, 0, ⟨#[]⟩⟩).k = 0 ∧ (awL.getD k ⟨0, 0, 0, ⟨#[]⟩⟩).d.size ≤ 64
 | 0, _ => ⟨rfl, by decide⟩
 | 1, _ => ⟨rfl, by decide⟩
 | 2, _ => ⟨rfl, by decide⟩
 | 3, _ => ⟨rfl, by decide⟩
 | 4, _ => ⟨rfl, by decide⟩
 | 5, _ => ⟨rfl, by decide⟩
 | 6, _ => ⟨rfl, by decide⟩
theorem aw13 : ∀ k : Nat, k ≤ 7 → Lg.Log 30 (Lg.playL 30 awL k) 0 [] ((List.range k).map awR) ∧ So.Calm (Lg.playL 30 awL k).d ∧ (Lg.playL 30 awL k).g = awG k ∧ (Lg.playL 30 awL k).v ≤ (k : Int) + 1
 | 0, _ => by
  obtain ⟨h1, h2, h3⟩ := Lg.Log.new (q := 30) (by decide)
  refine ⟨h2, calm_create12 ⟨rfl, rfl, rfl⟩, (create_new (q := 30) (by decide)).2.2, ?_⟩
  show (createT empty).1.v ≤ _
  rw [h3]; decide
 | k + 1, hk => by
  obtain ⟨h1, h2, h3, h4⟩ := aw13 k (by omega)
  obtain ⟨a1, a2⟩ := awL_k k (by omega)
  have hx : (Lg.playL 30 awL k).x = (k : Int) := by rw [h1.x]; simp
  have e : Lg.playL 30 awL (k + 1) = (So.append (Lg.playL 30 awL k) 30 (awR k)).1 := by
   rw [Lg.playL_succ]
   unfold Lg.playA
   rw [if_neg (by rw [a1]; decide), if_neg (by rw [a1]; decide), if_neg (by rw [a1]; decide), if_neg (by rw [a1]; decide), hx]
   rfl
  have hl : ¬ 64 ≤ (Lg.playL 30 awL k).g.length := by rw [h3]; have := awG_len k; omega
  obtain ⟨b1, b2⟩ := app_ok h1 h2 (by decide) (by omega) hl (r := awR k) ⟨by show (0 : Int) ≤ (k : Int); omega, by show (k : Int) ≤ _; omega, by show (0 : Int) ≤ (k : Int); omega, by show (k : Int) ≤ _; omega, a2⟩ hx.symm (by rw [hx]; omega)
  rw [e]
  refine ⟨?_, (ck_app h2 hl 30 (awR k)).1, ?_, ?_⟩
  · rw [List.range_succ, List.map_append]
    exact b2
  · rw [app_g b1, ← awG_step k (by omega), hx, h3]
    unfold lastG
    rw [h3]
  · have := (h1.append (by decide) (by omega) (awR k)).2.1
    omega
theorem aw_pick : Rt.IsPick (awG 7) 0 100 1 := .inr ⟨by decide, Rt.last_not (by decide), fun j hj => by
 obtain rfl : j = 0 := by omega
 exact ⟨by decide, .inl (by decide)⟩⟩
theorem aw_tells : (Lg.playL 30 awL 7).g.length = 2 ∧ (Lg.trimT (Lg.playL 30 awL 7) 0 100).2 = 0 ∧ (Lg.trimT (Lg.playL 30 awL 7) 0 100).1.g.length = 1 ∧ 1 < (Lg.snapT (Lg.trimT (Lg.playL 30 awL 7) 0 100).1).length ∧
 Lg.stateT (Lg.trimT (Lg.playL 30 awL 7) 0 100).1 (Lg.trimT (Lg.playL 30 awL 7) 0 100).1.x = Lg.stateT (Lg.playL 30 awL 7) (Lg.playL 30 awL 7).x := by
 obtain ⟨h1, h2, h3, h4⟩ := aw13 7 (Nat.le_refl _)
 have hp : Lg.pickN (Lg.playL 30 awL 7).g 0 100 = 1 := by
  rw [h3]
  exact (Lg.pickN_is _ _ _).one aw_pick
 have hlen : (Lg.playL 30 awL 7).g.length = 2 := by rw [h3]; rfl
 have hb : (Lg.trimB (Lg.playL 30 awL 7) 1).length = 10 := by
  have hs := h1.state (k := 4) (by simp)
  have hF : Lg.trimF (Lg.playL 30 awL 7) 1 = 0 + ((4 : Nat) : Int) := by
   unfold Lg.trimF
   rw [h3]
   rfl
  show (Fp.bytes (Lg.stateT (Lg.playL 30 awL 7) (Lg.trimF (Lg.playL 30 awL 7) 1))).length = 10
  rw [hF, hs]
  kernel_rfl
 have hn := nf_trim h2 1
 have hv : (Lg.playL 30 awL 7).v < 1099511627776 := by omega
 refine ⟨hlen, ?_⟩
 unfold Lg.trimT
 rw [hp]
 obtain ⟨m, m0, m1, m2, m3⟩ := h1.trim (k := 1) (by decide) (by rw [hlen]; decide) hv
 rcases m3 with ⟨_, a | ⟨a, _⟩, _⟩ | ⟨a1, a2, a3⟩
 · exact absurd a hn.1
 · exact absurd a hn.2
 have e0 : (Lg.trimK (Lg.playL 30 awL 7) 1).2 = 0 := by
  rcases a2 with a | ⟨a, _⟩
  · exact a
  · exact absurd a hn.2
 refine ⟨e0, ?_, ?_, ?_⟩
 · rw [a3]
   show ((Lg.playL 30 awL 7).g.drop 1).length = 1
   rw [List.length_drop, hlen]
 · rw [a1.snap.2.1, a3]
   show 1 < (((Lg.trimB (Lg.playL 30 awL 7) 1).length : Int)).toNat
   rw [hb]; decide
 · have hs1 := a1.state (k := (((List.range 7).map awR).drop m).length) (Nat.le_refl _)
   have hs0 := h1.state (k := ((List.range 7).map awR).length) (Nat.le_refl _)
   rw [← a1.x] at hs1
   rw [← h1.x] at hs0
   rw [hs1, hs0, List.take_length, List.take_length]
   show Fp.fold (Fp.fold [] _) _ = _
   conv => rhs; rw [← List.take_append_drop m ((List.range 7).map awR)]
   rw [List.map_append]
   unfold Fp.fold
   rw [List.foldl_append]
end Trm
end Go.Proofs.YtijbpdpkoamhbaaGreat

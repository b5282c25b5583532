/-
  Parts of what the laws of this seat stand on: StoFit, StoFrm, StoTail, StoRd, StoFit2.
-/
import Derived.Test.YtijbpdpkoamhbaaGreatQa1
import Derived.Deep.DeepCutAuto
import Derived.Deep.RegionHeld3
import Derived.Test.YtijbpdpkoamhbaaGreatQa10
import Derived.Test.YtijbpdpkoamhbaaGreatQa12
import Derived.Test.YtijbpdpkoamhbaaGreatQa13
import Derived.Test.YtijbpdpkoamhbaaGreatQa18
import Derived.Test.YtijbpdpkoamhbaaGreatQa21
import Derived.Test.YtijbpdpkoamhbaaGreatQa28
import Derived.Test.YtijbpdpkoamhbaaGreatQa30
import Derived.Test.YtijbpdpkoamhbaaGreatQa34
import Derived.Test.YtijbpdpkoamhbaaGreatQa6
import Derived.Test.YtijbpdpkoamhbaaGreatQa7
set_option maxRecDepth 100000
set_option maxHeartbeats 6400000
namespace Go.Proofs.YtijbpdpkoamhbaaGreat
namespace So
open Dp
def fit : Nat → List Rp.Rec → List Rp.Rec
 | _, [] => []
 | b, r :: t => if b < (Fr.fr (Rp.body r)).length then [] else r :: fit (b - (Fr.fr (Rp.body r)).length) t
theorem fit_nil (b : Nat) : fit b [] = [] := by cases b <;> rfl
theorem fit_no {b : Nat} {r : Rp.Rec} {t : List Rp.Rec} (h : b < (Fr.fr (Rp.body r)).length) : fit b (r :: t) = [] := by unfold fit; rw [if_pos h]
theorem fit_yes {b : Nat} {r : Rp.Rec} {t : List Rp.Rec} (h : ¬ b < (Fr.fr (Rp.body r)).length) : fit b (r :: t) = r :: fit (b - (Fr.fr (Rp.body r)).length) t := by
 rw [fit.eq_2, if_neg h]
theorem fit_pre : ∀ (m : List Rp.Rec) (b : Nat), ∃ k, k ≤ m.length ∧ fit b m = m.take k
 | [], b => ⟨0, Nat.le_refl _, by rw [fit_nil]; rfl⟩
 | r :: t, b => by
  by_cases h : b < (Fr.fr (Rp.body r)).length
  · exact ⟨0, Nat.zero_le _, by rw [fit_no h]; rfl⟩
  · obtain ⟨k, h1, h2⟩ := fit_pre t (b - (Fr.fr (Rp.body r)).length)
    exact ⟨k + 1, by rw [List.length_cons]; omega, by rw [fit_yes h, h2]; rfl⟩
theorem fit_le : ∀ (m : List Rp.Rec) (b : Nat), (Rp.rowB (fit b m)).length ≤ b
 | [], b => by rw [fit_nil]; exact Nat.zero_le _
 | r :: t, b => by
  by_cases h : b < (Fr.fr (Rp.body r)).length
  · rw [fit_no h]; exact Nat.zero_le _
  · have := fit_le t (b - (Fr.fr (Rp.body r)).length)
    rw [fit_yes h, Rp.rowB_cons, List.length_append]
    omega
theorem fit_all : ∀ (m : List Rp.Rec) (b : Nat), (Rp.rowB m).length ≤ b → fit b m = m
 | [], b, _ => fit_nil b
 | r :: t, b, h => by
  rw [Rp.rowB_cons, List.length_append] at h
  rw [fit_yes (by omega), fit_all t _ (by omega)]
theorem fit_join : ∀ (m m' : List Rp.Rec) (b : Nat), (Rp.rowB m).length ≤ b → fit b (m ++ m') = m ++ fit (b - (Rp.rowB m).length) m'
 | [], m', b, _ => by rw [Rp.rowB_nil]; rfl
 | r :: t, m', b, h => by
  rw [Rp.rowB_cons, List.length_append] at h
  rw [List.cons_append, fit_yes (by omega), fit_join t m' _ (by omega), Rp.rowB_cons, List.length_append, Nat.sub_sub]
  rfl
theorem fit_stop : ∀ (m m' : List Rp.Rec) (b : Nat), b < (Rp.rowB m).length → fit b (m ++ m') = fit b m
 | [], m', b, h => by rw [Rp.rowB_nil] at h; cases h
 | r :: t, m', b, h => by
  by_cases h1 : b < (Fr.fr (Rp.body r)).length
  · rw [List.cons_append, fit_no h1, fit_no h1]
  · rw [Rp.rowB_cons, List.length_append] at h
    rw [List.cons_append, fit_yes h1, fit_yes h1, fit_stop t m' _ (by omega)]
theorem fit_take : ∀ (m : List Rp.Rec) (b n : Nat), fit b (m.take n) = (fit b m).take n
 | [], b, n => by rw [List.take_nil, fit_nil, List.take_nil]
 | r :: t, b, 0 => by rw [List.take_zero, fit_nil, List.take_zero]
 | r :: t, b, n + 1 => by
  rw [List.take_succ_cons]
  by_cases h : b < (Fr.fr (Rp.body r)).length
  · rw [fit_no h, fit_no h, List.take_nil]
  · rw [fit_yes h, fit_yes h, fit_take t, List.take_succ_cons]
theorem row_fit : ∀ (m : List Rp.Rec) (b : Nat), (∀ r ∈ m, Rp.Ok r) → ∃ rest e, (Rp.rowB m).take b = Rp.rowB (fit b m) ++ rest ∧ (rest = [] ∧ e = 0 ∨ rest ≠ [] ∧ Rp.nxt rest = (Rp.zero, 0, e) ∧ e ≠ 0)
 | [], b, _ => ⟨[], 0, by rw [fit_nil, Rp.rowB_nil, List.take_nil]; rfl, .inl ⟨rfl, rfl⟩⟩
 | r :: t, b, hok => by
  by_cases h : b < (Fr.fr (Rp.body r)).length
  · rw [fit_no h, Rp.rowB_nil, Rp.rowB_cons, List.take_append_of_le_length (Nat.le_of_lt h)]
    simp only [List.nil_append]
    rcases Nat.eq_zero_or_pos b with rfl | hb
    · exact ⟨[], 0, rfl, .inl ⟨rfl, rfl⟩⟩
    · refine ⟨_, 2, rfl, .inr ⟨fun e => ?_, Gp.nxt_cut (hok r mcs) h, by decide⟩⟩
      have := congrArg List.length e
      rw [List.length_take, Nat.min_eq_left (Nat.le_of_lt h), List.length_nil] at this
      omega
  · obtain ⟨rest, e, h1, h2⟩ := row_fit t (b - (Fr.fr (Rp.body r)).length) fun x hx => hok x (mcm hx)
    refine ⟨rest, e, ?_, h2⟩
    rw [fit_yes h, Rp.rowB_cons, Rp.rowB_cons, List.take_append, List.take_of_length_le (by omega), h1, List.append_assoc]
theorem rise_take : ∀ (m : List Rp.Rec) (b : Int) (k : Nat), Gp.Rise b m → Gp.Rise b (m.take k)
 | [], _, _, _ => by rw [List.take_nil]; trivial
 | _ :: _, _, 0, _ => trivial
 | r :: t, b, k + 1, h => ⟨h.1, rise_take t (b + 1) k h.2⟩
theorem rise_drop : ∀ (m : List Rp.Rec) (b : Int) (k : Nat), Gp.Rise b m → Gp.Rise (b + k) (m.drop k)
 | [], _, _, _ => by rw [List.drop_nil]; trivial
 | r :: t, b, 0, h => by simpa using h
 | r :: t, b, k + 1, h => by
  have := rise_drop t (b + 1) k h.2
  rw [List.drop_succ_cons, show b + ((k + 1 : Nat) : Int) = b + 1 + (k : Int) from by omega]
  exact this
theorem full_fit {m : List Rp.Rec} {b : Int} (hok : ∀ r ∈ m, Rp.Ok r) (hr : Gp.Rise b m) (h0 : 0 ≤ b) (h1 : b ≤ 1099511627776) (n : Nat) : ∃ e, Gp.full ((Rp.rowB m).take n) b = (Gp.withAt (fit n m) 0, (Rp.rowB (fit n m)).length, e) := by
 obtain ⟨rest, e, e1, e2⟩ := row_fit m n hok
 obtain ⟨k, _, e3⟩ := fit_pre m n
 have := Gp.pls_rows (fit n m) b 0 rest e (fun r hr => hok r (by rw [e3] at hr; exact List.mem_of_mem_take hr)) (by rw [e3]; exact rise_take m b k hr) e2
 refine ⟨e, ?_⟩
 rw [e1, Gp.full_in (Rp.inB_mk h0 h1), List.drop_zero, this, Nat.zero_add]
structure At (S : St) (rs : List Rp.Rec) (i : Nat) : Prop where
 b0 : 0 ≤ (S.g.getD i Rt.zero).b
 n0 : 0 ≤ (S.g.getD i Rt.zero).n
 le : (S.g.getD i Rt.zero).b + (S.g.getD i Rt.zero).n ≤ rs.length
 dat : dat S.d (segN (S.g.getD i Rt.zero).b) = some (Rp.rowB ((rs.drop (S.g.getD i Rt.zero).b.toNat).take (S.g.getD i Rt.zero).n.toNat))
 nx : i + 1 < S.g.length → (S.g.getD (i + 1) Rt.zero).b = (S.g.getD i Rt.zero).b + (S.g.getD i Rt.zero).n ∧ 0 < (S.g.getD i Rt.zero).n
 fin : i + 1 = S.g.length → (S.g.getD i Rt.zero).b + (S.g.getD i Rt.zero).n = rs.length
theorem Fulls.at_ {D : Dk} {q : Int} : ∀ {t : List Rt.Sg} {b : Int} {rs : List Rp.Rec} (pre : List Rp.Rec) (post : List Rp.Rec) (g : Rt.Sg), Fulls D q t b rs → 0 ≤ b → b = (pre.length : Int) → g.b = b + rs.length → ∀ i, i < t.length →
 0 ≤ (t.getD i Rt.zero).b ∧ 0 < (t.getD i Rt.zero).n ∧ (t.getD i Rt.zero).b + (t.getD i Rt.zero).n ≤ b + rs.length ∧ dat D (segN (t.getD i Rt.zero).b) = some (Rp.rowB (((pre ++ (rs ++ post)).drop (t.getD i Rt.zero).b.toNat).take (t.getD i Rt.zero).n.toNat)) ∧ ((t ++ [g]).getD (i + 1) Rt.zero).b = (t.getD i Rt.zero).b + (t.getD i Rt.zero).n
 | [], b, rs, pre, post, g, h, _, _, _, i, hi => by cases hi
 | a :: t, b, rs, pre, post, g, ⟨a1, l, r, a2, a3, a4, a5, a6, a7, a8, a9⟩, h0, hp, hg, 0, _ => by
  have hl : 0 < l.length := List.length_pos_iff.2 a3
  subst a2
  rw [List.length_append] at hg ⊢
  simp only [List.getD_cons_zero]
  refine ⟨by omega, by omega, by omega, ?_, ?_⟩
  · rw [a1, a5, a4, hp]
    congr 2
    rw [Int.toNat_natCast, Int.toNat_natCast, List.drop_left' rfl, List.append_assoc, List.take_left' rfl]
  · rw [List.cons_append, List.getD_cons_succ, a4, a1]
    cases t with
    | nil =>
     obtain rfl : r = [] := a9
     simp only [List.nil_append, List.getD_cons_zero]
     simp at hg
     omega
    | cons c t =>
     rw [List.cons_append, List.getD_cons_zero, a9.1, a4]
 | a :: t, b, rs, pre, post, g, ⟨a1, l, r, a2, a3, a4, a5, a6, a7, a8, a9⟩, h0, hp, hg, i + 1, hi => by
  subst a2
  rw [List.length_append] at hg ⊢
  have := a9.at_ (pre ++ l) post g (by omega) (by rw [a4, List.length_append]; omega) (by omega) i (by simpa using hi)
  rw [List.getD_cons_succ, List.cons_append, List.getD_cons_succ]
  obtain ⟨c1, c2, c3, c4, c5⟩ := this
  refine ⟨c1, c2, by omega, ?_, c5⟩
  rw [c4, List.append_assoc, List.append_assoc]
end So
namespace Sto
open Go.RowKit So
theorem rowB_append : ∀ (a b : List Rp.Rec), Rp.rowB (a ++ b) = Rp.rowB a ++ Rp.rowB b
 | [], b => by rw [Rp.rowB_nil]; rfl
 | r :: a, b => by rw [List.cons_append, Rp.rowB_cons, rowB_append a b, Rp.rowB_cons, List.append_assoc]
theorem row_drop (m : List Rp.Rec) (j : Nat) : (Rp.rowB m).drop (Rp.rowB (m.take j)).length = Rp.rowB (m.drop j) := by
 conv => lhs; rw [← List.take_append_drop j m, rowB_append]
 rw [List.take_append_drop, List.drop_left' rfl]
theorem frame_at {m : List Rp.Rec} (hok : ∀ r ∈ m, Rp.Ok r) {j : Nat} (hj : j < m.length) :
 ∃ n i : Nat, Vp.take ((Rp.rowB m).drop (Rp.rowB (m.take j)).length) = some (n, i) ∧ 1 ≤ n ∧ n ≤ 76 ∧ ((putI (n : Int)).length : Int) + 4 + n = ((Rp.rowB (m.take (j + 1))).length : Int) - ((Rp.rowB (m.take j)).length : Int) ∧ (Rp.rowB (m.take j)).length + i ≤ 1000 + (Rp.rowB m).length := by
 have hr := hok _ (List.getElem_mem hj)
 have hb := Rp.body_le hr
 have hm := Rp.body_may hr
 refine ⟨(Rp.body m[j]).length, (Vp.put (Rp.body m[j]).length).length, ?_, hm.1, hb, ?_, ?_⟩
 · rw [row_drop, List.drop_eq_getElem_cons hj, Rp.rowB_cons]
   unfold Fr.fr
   rw [List.append_assoc, List.append_assoc]
   exact Vp.take_put _ _ (by omega)
 · rw [List.take_succ_eq_append_getElem hj, Rp.rowB_snoc, List.length_append, Fr.fr_len]
   unfold putI
   rw [if_neg (by omega), Int.toNat_natCast]
   omega
 · have h1 := congrArg List.length (rowB_append (m.take j) (m.drop j))
   rw [List.take_append_drop, List.length_append] at h1
   have := Vp.put_len_le (Rp.body m[j]).length
   omega
end Sto
namespace Sto
open Go.RowKit So Dsk Rts
theorem dat_file {D : Dp.Dk} {n : ByteArray} {l : List UInt8} (h : dat D n = some l) : ∃ f, Dp.get D.f n = some f ∧ f.d.data.toList = l := by
 unfold dat at h
 cases hg : Dp.get D.f n with
 | none => rw [hg] at h; cases h
 | some f => rw [hg] at h; injection h with h; exact ⟨f, rfl, h⟩
theorem row_ext {s : ByteArray} {m : List Rp.Rec} {k x : Nat} (h : s.data.toList = Rp.rowB m) (hx : (Rp.rowB (m.take k)).length = x) : s.extract x s.size = ⟨(Rp.rowB (m.drop k)).toArray⟩ := by
 apply ByteArray.ext
 apply Array.ext'
 rw [ext_list, h, ← hx, row_drop, List.take_of_length_le]
 have h1 := congrArg List.length (rowB_append (m.take k) (m.drop k))
 have h2 := congrArg List.length h
 rw [List.take_append_drop, List.length_append] at h1
 have h3 : s.size = s.data.toList.length := by simp
 omega
theorem tail12_any (fa : Option Addr) (fn fc : Nat) (D : Dp.Dk) (b n z : Int) (m : List Rp.Rec) (j : Nat) (w : World) (hv : IsL FL w (.slice fa fn fc) D.f) (hS : Sm D) (hok : ∀ r ∈ m, Rp.Ok r) (hb : 0 ≤ b ∧ b ≤ 1152921504606846976) (hd : dat D (segN b) = some (Rp.rowB m)) (hj : j ≤ m.length) (hm : m.length ≤ 1000000) :
 Calls Tryz.prog 99 #[dkVal (.slice fa fn fc) D, .agg #[.int .i64 b, .int .i64 n, .int .i64 z], .int .i64 (b + j)] w fun e w' => e = .returned (.string ⟨(Rp.rowB (m.drop j)).toArray⟩) ∧ Below w.heap.size w w' := by
 obtain ⟨f, hf, hfl⟩ := dat_file hd
 obtain ⟨s, hs⟩ : ∃ s, f.d = s := ⟨_, rfl⟩
 rw [hs] at hfl
 have hsz : s.size = (Rp.rowB m).length := by rw [← hfl]; simp
 have hs9 : s.size ≤ 1000000000 := by have := used_mem (Dp.get_mem hf).1; have := hS.u; rw [← hs]; omega
 have RD := zid fun (W : World) (h : IsL FL W (.slice fa fn fc) D.f) => Dsk.read_any (.slice fa fn fc) D (segN b) W h hS.r.2.1 (by have := hS.n; omega)
 rw [readVal_yes hf, hs] at RD
 have SN := zid fun W : World => seg_any b W (by omega)
 have HV := zid hv
 obtain ⟨g0, g1, gb, gs⟩ := boxes2 w #[.slice fa fn fc, .int .i64 D.c, .bool D.a, .int .i64 D.l, .bool D.x] #[.int .i64 b, .int .i64 n, .int .i64 z] 28 73
 have GB := zid gb
 have G1 := zid g1
 have GS := zid gs
 have HW1 : IntKind.i64.wrap (b + (j : Int) - b) = (j : Int) := by
  rw [show b + (j : Int) - b = (j : Int) from by omega]
  exact IntWalk.i64_in _ ⟨by omega, by omega⟩
 have HFR := zid fun (k : Nat) (hk : k < m.length) => frame_at hok hk
 have HFL := zid hfl
 have HSZ := zid hsz
 have HS9 := zid hs9
 have HJ := zid (show j ≤ m.length ∧ m.length ≤ 1000000 from ⟨hj, hm⟩)
 have HLE := zid fun (k : Nat) => (show (Rp.rowB (m.take k)).length ≤ s.size from by
  have h := congrArg List.length (rowB_append (m.take k) (m.drop k))
  rw [List.take_append_drop, List.length_append] at h
  omega)
 have VR := zid fun (i : Int) (W : World) => Go.Proofs.YtijbpdpkoamhbaaGreat.read_any s i W (by omega)
 unfold dkVal at RD ⊢
 unfold segN at RD
 obtain ⟨d0, d1, d2, d3, d4⟩ := cells5 g0
 obtain ⟨p0, _, _⟩ := Dsk.cells3 g1
 clear hv hS hok hb hd hf hs hsz hs9 hfl hj g0 g1 gb gs hm
 go_enter Tryz.func99, Tryz.ntmps99
 go_upto_region 1 with (fail)
 generalize World.alloc (World.alloc w _) _ = w0 at GB G1 GS d0 d1 d2 d3 d4 p0 ⊢
 have hlt : w.heap.size < w0.heap.size := by rw [GS.out]; omega
 have hlt1 : w.heap.size + 1 < w0.heap.size := by rw [GS.out]; omega
 go_cut [7] (fun v wc => v = .string s ∧ Below w0.heap.size w0 wc)
 case first =>
  go_region_held3 (fun W => (∀ b o, b < w0.heap.size → W.cell? ⟨b, o, none⟩ = w0.cell? ⟨b, o, none⟩) ∧ Below w0.heap.size w0 W) (first | with_reducible assumption | with_reducible exact KW.dr _ | with_reducible exact KW.keep (by assumption) (Below.refl _ _).drew | with_reducible exact KW.keep (by assumption) (by assumption)) (first | (go_at_call 79; refine (SN.out _).mono ?_; rintro e w5 ⟨rfl, q5⟩; have s5 := KW.keep (by assumption) q5) | (go_at_call 47; refine (RD.out _ (HV.out.keep (GB.out.trans ((KW.bel (by assumption)).mono GB.out.size)))).mono ?_; rintro e w5 ⟨rfl, q5⟩; have s5 := KW.keep (by assumption) q5))
  all_goals
   rename_i hh
   have LB := zid (KW.bel hh)
   clear hh
   go_wp2_with fail
   go_meet
   case rel => exact ⟨rfl, LB.out⟩
 case rest =>
  obtain ⟨rfl, hbw⟩ := hcut
  have WB := zid (GB.out.trans (hbw.mono GB.out.size))
  obtain ⟨p0, p1, p2⟩ := Dsk.cells3 (hkeep G1.out hbw)
  clear hbw RD SN
  go_wp2_with fail
  go_loopw [9, 25] (fun a i wr => ∃ k : Nat, k ≤ j ∧ i = .int .i64 k ∧ a = .int .i64 ((Rp.rowB (m.take k)).length : Int) ∧ Below w.heap.size w wr) (fun _ i _ => j - (intOf i).toNat)
  case atStart => exact ⟨0, Nat.zero_le _, rfl, by rw [List.take_zero, Rp.rowB_nil]; rfl, WB.out⟩
  case round =>
   obtain ⟨k, hk, rfl, rfl, hbr⟩ := hrel
   have HB := zid hbr
   clear hbr p0 p1 p2
   by_cases hlt' : k < j
   · obtain ⟨q, i, t1, t2, t3, t4, t5⟩ := HFR.out k (by have := HJ.out; omega)
     have V := VR.out ((Rp.rowB (m.take k)).length : Int) wr
     rw [rdAt_some (by rw [HFL.out]; exact t1) rfl] at V
     have Z := fun W : World => size_any (q : Int) W (by omega) (by omega)
     rw [sizeI_yes (by omega), t4] at Z
     have h1 := HLE.out k
     have h2 := HLE.out (k + 1)
     have h9 := HS9.out
     replace V := zid V
     replace Z := zid Z
     obtain ⟨x, hx⟩ : ∃ x : Nat, (Rp.rowB (m.take k)).length = x := ⟨_, rfl⟩
     obtain ⟨y, hy⟩ : ∃ y : Nat, (Rp.rowB (m.take (k + 1))).length = y := ⟨_, rfl⟩
     rw [hx] at V Z h1
     rw [hy] at Z h2
     have HY := zid hy
     have HWA : IntKind.i64.wrap ((x : Int) + ((y : Int) - (x : Int))) = (y : Int) := by
      rw [show (x : Int) + ((y : Int) - (x : Int)) = (y : Int) from by omega]
      exact IntWalk.i64_in _ ⟨by omega, by omega⟩
     have HWK : IntKind.i64.wrap ((k : Int) + 1) = (k : Int) + 1 := IntWalk.i64_in _ ⟨by omega, by have := HJ.out; omega⟩
     rw [hx]
     clear t1 t2 t3 t4 t5 h1 h2 h9 hx hy HW1
     have hki : (k : Int) < (j : Int) := by omega
     go_wp2_with fail
     refine V.out.mono ?_
     rintro e w2 ⟨rfl, nd, rfl⟩
     have HB2 := zid (HB.out.trans ((bel_drewN nd).mono HB.out.size))
     go_wp2_with fail
     refine (Z.out _).mono ?_
     rintro e w3 ⟨rfl, rfl⟩
     go_wp2_with fail
     go_roundw
     case rel => exact ⟨k + 1, by omega, by go_num, by rw [HY.out], HB2.out⟩
     case measure => simp [intOf]; omega
   · obtain rfl : k = j := by omega
     have h1 := HLE.out k
     obtain ⟨x, hx⟩ : ∃ x : Nat, (Rp.rowB (m.take k)).length = x := ⟨_, rfl⟩
     rw [hx] at h1
     have HX := zid hx
     rw [hx]
     have hki : ¬ (k : Int) < (k : Int) := by omega
     have h9 := HS9.out
     clear hx HW1
     go_wp2_with fail
     go_ret
     refine ⟨?_, HB.out⟩
     show Ending.returned (.string (s.extract x s.size)) = _
     rw [row_ext HFL.out HX.out]
structure Held12 (S : St) (rs : List Rp.Rec) (i k j : Nat) (m : List Rp.Rec) : Prop where
 o : (i : Int) = (S.g.getD k Rt.zero).b + (j : Int)
 b : 0 ≤ (S.g.getD k Rt.zero).b ∧ (S.g.getD k Rt.zero).b ≤ 1152921504606846976
 d : dat S.d (segN (S.g.getD k Rt.zero).b) = some (Rp.rowB m)
 ok : ∀ r ∈ m, Rp.Ok r
 n : m.length ≤ rs.length
 le : j ≤ m.length
 dr : m.drop j = (rs.drop i).take (m.length - j)
 nx : k + 1 < S.g.length → (S.g.getD (k + 1) Rt.zero).b = (i : Int) + ((m.length - j : Nat) : Int)
 fin : k + 1 = S.g.length → i + (m.length - j) = rs.length
theorem fromT_lo {S : St} {o B M : Int} (ho : o < floor S ∨ S.s ≤ o ∨ M < 1) : fromT S o B M = [] := by
 unfold fromT
 by_cases h1 : o < floor S
 · rw [if_pos h1]
 · rw [if_neg h1]
   rcases ho with ho | ho | ho
   · exact absurd ho h1
   · rw [show (S.s - o).toNat = 0 from by omega]; rfl
   · cases (S.s - o).toNat with
     | zero => rfl
     | succ j => rw [fromF_succ, if_neg (by omega)]
theorem from_enough {L : List Rp.Rec} {B p W : Nat} (hb : (Rp.rowB (L.take p)).length ≤ B) (hp : W ≤ p) : (fit B L).take W = (L.take p).take W := by
 have h := fit_take L B p
 rw [fit_all _ _ hb] at h
 rw [h, List.take_take, Nat.min_eq_left hp]
theorem from_stop {L m m' : List Rp.Rec} {B p : Nat} (hb : (Rp.rowB (L.take p)).length ≤ B) (hL : L.drop p = m ++ m') (hs : B - (Rp.rowB (L.take p)).length < (Rp.rowB m).length) : fit B L = L.take p ++ fit (B - (Rp.rowB (L.take p)).length) m := by
 conv => lhs; rw [← List.take_append_drop p L, hL]
 rw [fit_join _ _ _ hb, fit_stop _ _ _ hs]
end Sto
end Go.Proofs.YtijbpdpkoamhbaaGreat

/-
  Parts of what the laws of this seat stand on: TrmGood, RetSums, RetProg.
-/
import Derived.Test.YtijbpdpkoamhbaaGreatQa1
import Derived.Deep.DeepCutAuto
import Derived.Deep.Heap
import Derived.Test.YtijbpdpkoamhbaaGreatQa40
import Derived.Test.YtijbpdpkoamhbaaGreatQa41
import Derived.Test.YtijbpdpkoamhbaaGreatQa42
import Derived.Test.YtijbpdpkoamhbaaGreatQa7
set_option maxRecDepth 100000
set_option maxHeartbeats 6400000
namespace Go.Proofs.YtijbpdpkoamhbaaGreat
namespace Trm
open Go.RowKit So Dsk Rts Sto
theorem bd_delSegs : ∀ (t : List Rt.Sg) {D : Dp.Dk} {k : Nat}, Bd D k → Bd (Lg.delSegs D t).1 (k + t.length)
 | [], _, _, h => h
 | g :: t, D, k, h => by
  have h1 := bd_delete h (segN g.b)
  show Bd (if (Dp.delete D (segN g.b)).2 ≠ 0 then Dp.delete D (segN g.b) else Lg.delSegs (Dp.delete D (segN g.b)).1 t).1 _
  rw [List.length_cons]
  split
  · exact h1.mono (by omega)
  · exact (bd_delSegs t h1).mono (by omega)
theorem bd_trimK {S : St} {p k : Nat} (h : Bd S.d k) (hB : (Lg.trimB S p).length ≤ 3000) : Bd (Lg.trimK S p).1.d (k + 12 + S.g.length) := by
 have hbs : (⟨(Lg.trimB S p).toArray⟩ : ByteArray).size ≤ 3000 := by show (Lg.trimB S p).toArray.size ≤ 3000; rw [List.size_toArray]; exact hB
 have h1 : Bd (Lg.trim1 S p).1 (k + 3) := by
  have c := bd_create h (Lg.snapN (Lg.trimF S p))
  unfold Lg.trim1
  split
  · exact c.mono (by omega)
  · exact bd_undo (bd_append c (Lg.snapN (Lg.trimF S p)) hbs) _ _
 have h2 : Bd (Lg.trim2 S p).1 (k + 4) := by
  unfold Lg.trim2
  split
  · exact h1.mono (by omega)
  · exact bd_sync h1 _
 have h3 : Bd (Lg.trim3 S p).1 (k + 10) := by
  unfold Lg.trim3
  split
  · exact h2.mono (by omega)
  · exact bd_undo (bd_swap h2 (man (Lg.trimX S p))) _ _
 have h4 : Bd (Lg.trim4 S p (Lg.trim3 S p).1).1 (k + 11 + S.g.length) := by
  have d := bd_delSegs (S.g.take p) h3
  have l : (S.g.take p).length ≤ S.g.length := by rw [List.length_take]; omega
  unfold Lg.trim4
  split
  · exact (bd_delete d _).mono (by omega)
  · exact d.mono (by omega)
 unfold Lg.trimK
 split
 · exact h.mono (by omega)
 split
 · exact h3.mono (by omega)
 · exact h4.mono (by omega)
theorem bd_put {S : St} {k : Nat} (h : Bd S.d k) (r : Rp.Rec) : Bd (put S r).1.d (k + 1) := by
 have h1 := bd_append h (segN (lastG S).b) (s := ⟨(Rp.putB r).toArray⟩) (by rw [size_mk_list]; have := Rp.putB_le r; omega)
 unfold put
 dsimp only
 split <;> exact h1
theorem bd_app {S : St} {k : Nat} (hn : S.g ≠ []) (h : Bd S.d k) (q : Int) (r : Rp.Rec) : Bd (So.append S q r).1.d (k + 9) := by
 have hr := roll_raw hn h
 unfold So.append
 split
 · exact h.mono (by omega)
 split
 · exact h.mono (by omega)
 split
 · split
   · exact hr.d.mono (by omega)
   · exact bd_put hr.d _
 · exact (bd_put h _).mono (by omega)
theorem bd_play {q i : Int} {S : St} {a : Lg.Pa} {k : Nat} (hn : S.g ≠ []) (h : Bd S.d k) (ha : a.n ≤ 9223372036854775807) (hB : ∀ p, p < S.g.length → (Lg.trimB S p).length ≤ 3000) : Bd (Lg.playA q i S a).d (k + 12 + S.g.length) := by
 unfold Lg.playA
 split
 · exact (bd_sync h (segN (lastG S).b)).mono (by omega)
 split
 · unfold Lg.trimT
   exact bd_trimK h (hB _ ((Lg.pickN_is S.g a.n a.m).lt.2 (List.length_pos_iff.2 hn)))
 split
 · have := bd_step3 h (a := ⟨6, a.n, ⟨#[]⟩, ⟨#[]⟩, []⟩) ha (by show (0 : Nat) ≤ 3000; omega)
   rw [act6] at this
   exact this.mono (by omega)
 split
 · have := bd_step3 h (a := ⟨7, a.n, ⟨#[]⟩, ⟨#[]⟩, []⟩) ha (by show (0 : Nat) ≤ 3000; omega)
   rw [act7] at this
   exact this.mono (by omega)
 · exact (bd_app hn h q _).mono (by omega)
theorem log_wants {q F : Int} {S : St} {s0 : List Fp.Pr} {rs : List Rp.Rec} (h : Lg.Log q S F s0 rs) (hn : s0.length + rs.length ≤ 40) {p : Nat} (hp : p < S.g.length) :
 fewP (Lg.stateT S (Lg.trimF S p)) = true ∧ (Lg.trimB S p).length ≤ 3000 := by
 obtain ⟨b1, b2, b3⟩ := h.bases
 have hm := b3 (S.g.getD p Rt.zero) (by rw [getD_lt hp]; exact List.getElem_mem hp)
 have hx := h.x
 have hF : Lg.trimF S p = (S.g.getD p Rt.zero).b := rfl
 have e : Lg.trimF S p = F + (((Lg.trimF S p - F).toNat : Nat) : Int) := by omega
 have w := h.few hn (Nat.le_refl _) (k := (Lg.trimF S p - F).toNat) (by omega)
 rw [← e] at w
 exact ⟨w.2.2.1, w.2.2.2⟩
theorem fulls_fit {D : Dp.Dk} {q : Int} : ∀ {t : List Rt.Sg} {b : Int} {rs : List Rp.Rec}, Lg.Fulls D q t b rs → ∀ g ∈ t, (0 ≤ g.n ∧ g.n ≤ rs.length) ∧ (0 ≤ g.z ∧ g.z ≤ q + 90)
 | g :: t, b, rs, ⟨h1, l, r, h2, h3, h4, h5, h6, h7, h8, h9⟩, x, hx => by
  rw [h2, List.length_append]
  rcases List.mem_cons.1 hx with rfl | hx
  · exact ⟨⟨by omega, by omega⟩, ⟨by omega, h8⟩⟩
  · have ih := fulls_fit h9 x hx
    exact ⟨⟨ih.1.1, by omega⟩, ih.2⟩
theorem log_segs {q F : Int} {S : St} {s0 : List Fp.Pr} {rs : List Rp.Rec} (h : Lg.Log q S F s0 rs) : ∀ g ∈ S.g, (0 ≤ g.b ∧ g.b ≤ 1099511627776) ∧ (0 ≤ g.n ∧ g.n ≤ rs.length) ∧ (0 ≤ g.z ∧ g.z ≤ q + 90) := fun g hg => by
 obtain ⟨b1, b2, b3⟩ := h.bases
 have hb := b3 g hg
 have h0 := h.f0
 have hx := h.fx
 obtain ⟨t, l, r, e1, e2, e3, e4, e5, e6, e7, e8⟩ := h.seg
 refine ⟨⟨by omega, by omega⟩, ?_⟩
 rw [e1] at hg
 rw [e2, List.length_append]
 rcases List.mem_append.1 hg with hg | hg
 · have m := fulls_fit e3 g hg
   exact ⟨⟨m.1.1, by omega⟩, m.2⟩
 · rw [List.mem_singleton] at hg
   subst hg
   exact ⟨⟨by omega, by omega⟩, ⟨by omega, e8⟩⟩
end Trm
namespace Rts
open Go.RowKit Rt
def sgV (m : Sg) : Value := .agg #[.int .i64 m.b, .int .i64 m.n, .int .i64 m.z]
theorem with_any (z n : Int) (m : Sg) (w : World) (h1 : -9223372036854775808 ≤ z + m.z) (h2 : z + m.z ≤ 9223372036854775807) (h3 : -9223372036854775808 ≤ n + m.n) (h4 : n + m.n ≤ 9223372036854775807) :
 Calls Tryz.prog 61 #[.agg #[.int .i64 z, .int .i64 n], sgV m] w fun e w' => e = .returned (.agg #[.int .i64 (z + m.z), .int .i64 (n + m.n)]) ∧ Below w.heap.size w w' := by
 unfold sgV
 go_enter Tryz.func61, Tryz.ntmps61
 go_wp2_with fail
 refine bodyPost_ret (v := .agg #[.int .i64 (z + m.z), .int .i64 (n + m.n)]) (by simp [results, Tryz.results61, go_sem]) rfl ?_
 exact ⟨rfl, (((Below.refl _ _).alloc (Nat.le_refl _) _).alloc (by simp) _).alloc (by simp; omega) _⟩
theorem above_any (z n keep count : Int) (b : Bool) (w : World) (hb : b = true ↔ (keep < z ∨ count < n)) :
 Calls Tryz.prog 62 #[.agg #[.int .i64 z, .int .i64 n], .int .i64 keep, .int .i64 count] w fun e w' => e = .returned (.bool b) ∧ Below w.heap.size w w' := by
 by_cases h2 : keep < z
 · obtain rfl : b = true := hb.2 (.inl h2)
   have e2 : decide (keep < z) = true := by simpa using h2
   clear hb
   go_enter Tryz.func62, Tryz.ntmps62
   go_wp2_with fail
   go_ret
   exact ⟨rfl, (Below.refl _ _).alloc (Nat.le_refl _) _⟩
 · have e2 : decide (keep < z) = false := by simpa using h2
   have e3 : decide (count < n) = b := by
    rw [Bool.eq_iff_iff, decide_eq_true_iff, hb]
    exact ⟨.inr, fun h => h.resolve_left h2⟩
   clear hb
   go_enter Tryz.func62, Tryz.ntmps62
   go_wp2_with fail
   go_ret
   exact ⟨rfl, (Below.refl _ _).alloc (Nat.le_refl _) _⟩
def SB (b : Nat) (z n : Int) (W : World) : Prop := W.heap[b]? = some (.cells #[.int .i64 z, .int .i64 n] 98 (0, 0))
theorem SB.cells {b : Nat} {z n : Int} {W : World} (h : SB b z n W) : W.cell? ⟨b, 0, none⟩ = some (.int .i64 z) ∧ W.cell? ⟨b, 1, none⟩ = some (.int .i64 n) ∧ W.frozen? ⟨b, 0, none⟩ = false ∧ W.frozen? ⟨b, 1, none⟩ = false :=
 ⟨by rw [cell_of_row _ _ 0 _ _ _ h]; rfl, by rw [cell_of_row _ _ 1 _ _ _ h]; rfl, by unfold World.frozen?; rw [h]; rfl, by unfold World.frozen?; rw [h]; rfl⟩
theorem SB.lt {b : Nat} {z n : Int} {W : World} (h : SB b z n W) : b < W.heap.size := (Array.getElem?_eq_some_iff.1 h).1
theorem SB.keep {b : Nat} {z n : Int} {W W' : World} (h : SB b z n W) (k : Below W.heap.size W W') : SB b z n W' := (k.block b h.lt).trans h
theorem SB.new (w : World) (z n : Int) : SB w.heap.size z n (w.alloc (.cells #[.int .i64 z, .int .i64 n] 98)) := heap_alloc_new w _
theorem SB.set {b : Nat} {z n : Int} {W : World} (h : SB b z n W) (z' n' : Int) : SB b z' n' ((W.setCell ⟨b, 0, none⟩ (.int .i64 z')).setCell ⟨b, 1, none⟩ (.int .i64 n')) :=
 heap_setCell_same _ b 1 _ _ _ (heap_setCell_same W b 0 _ _ _ h)
structure Sb (w : World) (z n : Int) (W : World) : Prop where
 b : SB w.heap.size z n W
 w : Below w.heap.size w W
theorem Sb.new (w : World) (z n : Int) : Sb w z n (w.alloc (.cells #[.int .i64 z, .int .i64 n] 98)) := ⟨SB.new w z n, (Below.refl _ _).alloc (Nat.le_refl _) _⟩
theorem Sb.set {w : World} {z n : Int} {W W' : World} (h : Sb w z n W) (k : Below W.heap.size W W') (z' n' : Int) : Sb w z' n' ((W'.setCell ⟨w.heap.size, 0, none⟩ (.int .i64 z')).setCell ⟨w.heap.size, 1, none⟩ (.int .i64 n')) :=
 ⟨(h.b.keep k).set z' n', ((h.w.trans (k.mono h.w.size)).setCell (p := ⟨w.heap.size, 0, none⟩) (Nat.le_refl _) _).setCell (p := ⟨w.heap.size, 1, none⟩) (Nat.le_refl _) _⟩
theorem Sb.drew {w : World} {z n : Int} {W : World} (h : Sb w z n W) : Sb w z n W.drew := ⟨h.b, h.w.drew⟩
theorem Sb.keep {w : World} {z n : Int} {W W' : World} (h : Sb w z n W) (k : Below W.heap.size W W') : Sb w z n W' := ⟨h.b.keep k, h.w.trans (k.mono h.w.size)⟩
theorem sumZ_mono {l : List Sg} (hm : May l) {j k : Nat} (h : j ≤ k) : sumZ (l.take j) ≤ sumZ (l.take k) := by
 have e := sumZ_append ((l.take k).take j) ((l.take k).drop j)
 rw [List.take_append_drop, List.take_take, Nat.min_eq_left h] at e
 have := ((hm.take k).drop j).sums
 omega
theorem sumN_mono {l : List Sg} (hm : May l) {j k : Nat} (h : j ≤ k) : sumN (l.take j) ≤ sumN (l.take k) := by
 have e := sumN_append ((l.take k).take j) ((l.take k).drop j)
 rw [List.take_append_drop, List.take_take, Nat.min_eq_left h] at e
 have := ((hm.take k).drop j).sums
 omega
theorem pick_step {l : List Sg} {keep count : Int} {p j : Nat} (hm : May l) (hp : IsPick l keep count p) (hj : j + 1 < l.length) (hpj : p ≤ j + 1) {b : Bool} (hb : b = true ↔ (keep < sumZ (l.take (l.length - 1)) - sumZ (l.take j) ∨ count < sumN l - sumN (l.take j))) :
 (b = true → p = j + 1) ∧ (b = false → p ≤ j) := by
 rcases hp with ⟨rfl, rfl⟩ | ⟨a1, a2, a3⟩
 · simp at hj
 · constructor
   · intro e
     have h := hb.1 e
     refine Nat.le_antisymm hpj (Nat.lt_of_not_le fun hle => a2 ?_)
     rw [much_at (by omega)]
     have := sumZ_mono hm hle
     have := sumN_mono hm hle
     omega
   · intro e
     refine Nat.le_of_not_lt fun hlt => ?_
     have h := a3 j hlt
     rw [much_at hj, ← hb] at h
     rw [e] at h
     cases h
theorem pick_sums {l : List Sg} (hm : May l) {j m : Nat} (hj : j < m) (hl : m < l.length) :
 sumZ (l.take m) - sumZ (l.take j) = sumZ (l.take m) - sumZ (l.take (j + 1)) + (l.getD j zero).z ∧ sumN l - sumN (l.take j) = sumN l - sumN (l.take (j + 1)) + (l.getD j zero).n ∧
 -9223372036854775808 ≤ sumZ (l.take m) - sumZ (l.take (j + 1)) + (l.getD j zero).z ∧ sumZ (l.take m) - sumZ (l.take (j + 1)) + (l.getD j zero).z ≤ 9223372036854775807 ∧
 -9223372036854775808 ≤ sumN l - sumN (l.take (j + 1)) + (l.getD j zero).n ∧ sumN l - sumN (l.take (j + 1)) + (l.getD j zero).n ≤ 9223372036854775807 := by
 have e1 := sumZ_take (l := l) (k := j) (by omega)
 have e2 := sumN_take (l := l) (k := j) (by omega)
 obtain ⟨a1, a2, a3, a4⟩ := hm.sums
 obtain ⟨a5, a6, a7, a8⟩ := (hm.take m).sums
 obtain ⟨b1, b2, b3, b4⟩ := (hm.take (j + 1)).sums
 obtain ⟨c1, c2, c3, c4⟩ := hm.at_ j
 exact ⟨by omega, by omega, by omega, by omega, by omega, by omega⟩
theorem pick11_any (fa : Option Addr) (fn fc : Nat) (l : List Sg) (keep count : Int) (p : Nat) (w : World) (hv : IsL SL w (.slice fa fn fc) l) (_ : fn ≤ fc) (hm : May l) (hp : IsPick l keep count p) (_ : -9223372036854775808 ≤ keep) (_ : keep ≤ 9223372036854775807) (_ : -9223372036854775808 ≤ count) (_ : count ≤ 9223372036854775807) :
 Calls Tryz.prog 27 #[.slice fa fn fc, .int .i64 keep, .int .i64 count] w fun e w' => e = .returned (.int .i64 (p : Int)) ∧ Below w.heap.size w w' := by
 have hfl := hv.len.1
 have hl4 : fn ≤ 4096 := by rw [hfl]; exact hm.1
 have hpl := hp.lt
 rw [← hfl] at hpl
 by_cases hn : fn ≤ 1
 · obtain rfl : p = 0 := by omega
   have e1 : decide ((fn : Int) - 1 < 1) = true := by simp; omega
   clear hv hm hp hpl hfl
   go_enter Tryz.func27, Tryz.ntmps27
   go_wp2_with fail
   go_ret
   exact ⟨rfl, Below.refl _ _⟩
 · obtain ⟨m, hmm⟩ : ∃ m, fn - 1 = m := ⟨_, rfl⟩
   have hsub : (fn : Int) - 1 = (m : Int) := by omega
   have hm1 : m + 1 = fn := by omega
   have hmn : m < fn := by omega
   have hpm : p ≤ m := by omega
   have e1 : decide ((m : Int) < 1) = false := by simp; omega
   have ST := zid (show ∀ (j : Nat), j + 1 < fn → p ≤ j + 1 → ∀ b : Bool, (b = true ↔ (keep < sumZ (l.take m) - sumZ (l.take j) ∨ count < sumN l - sumN (l.take j))) → (b = true → p = j + 1) ∧ (b = false → p ≤ j) from fun j hj hpj b hb => by
    rw [← hmm, hfl] at hb
    exact pick_step hm hp (by omega) hpj hb)
   have SU := zid (show ∀ j, j < m → _ from fun j hj => pick_sums hm (j := j) (m := m) hj (by omega))
   have GB := zid (show ∀ j : Nat, _ from fun j => hm.at_ j)
   obtain ⟨g, off, rfl, c0, c1, c2⟩ := sg_at hv hmn
   have HL := zid (show sumN l - sumN (l.take m) = (l.getD m zero).n by
    have e := sumN_take (l := l) (k := m) (by omega)
    rw [List.take_of_length_le (by omega)] at e
    omega)
   obtain ⟨q1, q2, _, _⟩ := GB.out m
   have HV := zid hv
   have WI := zid with_any
   have AB := zid above_any
   unfold sgV at WI
   have N0 := zid (Sb.new w 0 (l.getD m zero).n)
   clear hv hm hp hpl hfl hmm hn
   generalize l.getD m zero = f0 at *
   go_enter Tryz.func27, Tryz.ntmps27
   go_upto_region 5 with (fail)
   generalize w.alloc _ = w1 at N0 ⊢
   clear c0 c1 c2
   go_wp2_with fail
   go_loopw [9] (fun i W => ∃ k : Nat, k ≤ m ∧ p ≤ k ∧ i = .int .i64 ((k : Int) - 1) ∧ Sb w (sumZ (l.take m) - sumZ (l.take k)) (sumN l - sumN (l.take k)) W) (fun i _ => (intOf i + 1).toNat)
   case atStart =>
    refine ⟨m, Nat.le_refl _, hpm, by go_num, ?_⟩
    rw [Int.sub_self, HL.out]
    exact N0.out
   case round =>
    obtain ⟨k, hk, hpk, rfl, hS⟩ := hrel
    rcases k with _ | j
    · obtain rfl : p = 0 := by omega
      have hw := zid hS.w
      clear hS
      go_wp2_with fail
      go_ret
      exact ⟨rfl, hw.out⟩
    · have hj1 : j < fn := by omega
      obtain ⟨g', off', e, c0, c1, c2⟩ := sg_at (HV.out.keep hS.w) hj1
      obtain ⟨rfl, rfl⟩ : g = g' ∧ off = off' := by simpa using e
      obtain ⟨e1, e2, p1, p2, p3, p4⟩ := SU.out j (by omega)
      rw [show (((j + 1 : Nat) : Int) - 1) = (j : Int) by omega]
      have hj0 : (0 : Int) ≤ (j : Int) := by omega
      obtain ⟨b0, b1, f0, f1⟩ := hS.b.cells
      have HS := zid hS
      have HZ := zid e1
      have HN := zid e2
      obtain ⟨x, hx⟩ : ∃ x : Bool, x = true ↔ (keep < sumZ (l.take m) - sumZ (l.take j) ∨ count < sumN l - sumN (l.take j)) := by
       classical exact ⟨decide _, decide_eq_true_iff⟩
      have SJ := zid (ST.out j (by omega) hpk x hx)
      rw [e1, e2] at hx
      have HX := zid hx
      clear hS e1 e2 e hx
      generalize sumZ (l.take m) - sumZ (l.take (j + 1)) = z at *
      generalize sumN l - sumN (l.take (j + 1)) = n at *
      generalize l.getD j zero = f at *
      go_wp2_with fail
      go_region_with (go_at_call 61; refine (WI.out _ _ _ _ p1 p2 p3 p4).mono ?_; rintro e w4 ⟨rfl, b4⟩; have K4 := zid (HS.out.drew.set b4 (z + f.z) (n + f.n)); obtain ⟨d0, d1, g0, g1⟩ := (HS.out.drew.keep b4).b.cells)
      all_goals
       clear c0 c1 c2 b0 b1 f0 f1
       generalize (World.setCell _ _ _).setCell _ _ = w5 at K4 ⊢
       obtain ⟨b0, b1, f0, f1⟩ := K4.out.b.cells
       go_wp2_with fail
       refine (AB.out _ _ _ _ x _ HX.out).mono ?_
       rintro e w6 ⟨rfl, b6⟩
       have K6 := zid (K4.out.keep b6)
       cases x with
       | true =>
        obtain rfl := SJ.out.1 rfl
        go_wp2_with fail
        go_ret
        exact ⟨by go_num, K6.out.w⟩
       | false =>
        have hpj := SJ.out.2 rfl
        go_wp2_with fail
        go_round
        case rel => exact ⟨j, by omega, hpj, rfl, by rw [HZ.out, HN.out]; exact K6.out⟩
        case measure => (simp [intOf]; done)
end Rts
end Go.Proofs.YtijbpdpkoamhbaaGreat

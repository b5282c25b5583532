/-
  Parts of what the laws of this seat stand on: MrRight, MrPut, StoSwp.
-/
import Derived.Test.YtijbpdpkoamhbaaGreatQa1
import Derived.Deep.DeepCutAuto
import Derived.Test.YtijbpdpkoamhbaaGreatQa10
import Derived.Test.YtijbpdpkoamhbaaGreatQa13
import Derived.Test.YtijbpdpkoamhbaaGreatQa21
set_option maxRecDepth 100000
set_option maxHeartbeats 6400000
namespace Go.Proofs.YtijbpdpkoamhbaaGreat
namespace Mfs
open Go.RowKit Qm
def HaveOk (l : List Int) : Prop := 1 ≤ l.length ∧ l.length ≤ 64 ∧ ∀ i, i < l.length → AtOk l i
def SnapOk (f z c : Int) : Prop := (f = 0 ∧ z = 0 ∧ c = 0) ∨ (f ≠ 0 ∧ 1 ≤ z ∧ z ≤ 65536)
instance (f z c : Int) : Decidable (SnapOk f z c) := by unfold SnapOk; infer_instance
def lastOf (l : List Int) : Nat → Int
 | 0 => -1
 | k + 1 => l.getD k 0
theorem have_cases (l : List Int) (k : Nat) (h : ∀ j, j < k → AtOk l j) :
 (¬ AtOk l k ∧ (l.getD k 0 ≤ lastOf l k ∨ (lastOf l k < l.getD k 0 ∧ 1099511627776 < l.getD k 0))) ∨ (AtOk l k ∧ lastOf l k < l.getD k 0 ∧ l.getD k 0 ≤ 1099511627776) := by
 have hlast : -1 ≤ lastOf l k ∧ (0 < k → lastOf l k = l.getD (k - 1) 0) ∧ (k = 0 → lastOf l k = -1) := by
  cases k with
  | zero => exact ⟨by show (-1 : Int) ≤ -1; omega, by omega, fun _ => rfl⟩
  | succ k => exact ⟨by have := (h k (by omega)).1; show (-1 : Int) ≤ l.getD k 0; omega, fun _ => rfl, by omega⟩
 obtain ⟨h0, h1, h2⟩ := hlast
 by_cases c1 : l.getD k 0 ≤ lastOf l k
 · refine .inl ⟨fun ⟨a0, _, a2⟩ => ?_, .inl c1⟩
   by_cases hk : k = 0
   · have := h2 hk; omega
   · have := a2 (by omega); have := h1 (by omega); omega
 · by_cases c2 : 1099511627776 < l.getD k 0
   · exact .inl ⟨fun ⟨_, a1, _⟩ => by omega, .inr ⟨by omega, c2⟩⟩
   · exact .inr ⟨⟨by omega, by omega, fun hk => by have := h1 hk; omega⟩, by omega, by omega⟩
theorem mayHave_any (fa : Option Addr) (fn fc : Nat) (l : List Int) (b : Bool) (w : World) (hv : IsL IL w (.slice fa fn fc) l) (hb : b = true ↔ HaveOk l) :
 Calls Tryz.prog 171 #[.slice fa fn fc] w fun e w' => e = .returned (.bool b) ∧ w = w' := by
 have HV := zid hv
 have HFL := zid hv.len.1
 have HN := zid (show ¬ HaveOk l → b = false from fun h => by rw [← Bool.not_eq_true, hb]; exact h)
 have HY := zid (show HaveOk l → b = true from hb.2)
 clear hv hb
 by_cases g3 : (fn : Int) < 1
 · have HF := zid (HN.out fun h => by have := h.1; rw [← HFL.out] at this; omega)
   go_enter Tryz.func171, Tryz.ntmps171
   go_wp2_with fail
   go_ret
   exact ⟨by rw [HF.out]; rfl, rfl⟩
 have e3 : decide ((fn : Int) < 1) = false := by simp; omega
 by_cases g4 : (64 : Int) < (fn : Int)
 · have HF := zid (HN.out fun h => by have := h.2.1; rw [← HFL.out] at this; omega)
   go_enter Tryz.func171, Tryz.ntmps171
   go_wp2_with fail
   go_ret
   exact ⟨by rw [HF.out]; rfl, rfl⟩
 have e4 : decide ((64 : Int) < (fn : Int)) = false := by simp; omega
 go_enter Tryz.func171, Tryz.ntmps171
 go_wp2_with fail
 go_loop [3, 16] (fun z i => ∃ k : Nat, k ≤ fn ∧ i = .int .i64 k ∧ z = .int .i64 (lastOf l k) ∧ ∀ j, j < k → AtOk l j) (fun _ i => fn - (intOf i).toNat)
 case atStart => exact ⟨0, Nat.zero_le _, rfl, rfl, fun j hj => absurd hj (Nat.not_lt_zero j)⟩
 case round =>
  obtain ⟨k, hk, rfl, rfl, hall⟩ := hrel
  have HALL := zid hall
  by_cases hlt : k < fn
  · obtain ⟨g, off, rfl, y0⟩ := il_at HV.out hlt
    have HLS := zid (show lastOf l (k + 1) = l.getD k 0 from rfl)
    rcases have_cases l k hall with ⟨hno, hbad⟩ | ⟨hyes, i1, i2⟩
    · have HF := zid (HN.out fun h => hno (h.2.2 k (by rw [← HFL.out]; exact hlt)))
      clear hno hall
      generalize l.getD k 0 = f at *
      generalize lastOf l k = la at *
      rcases hbad with i1 | ⟨i1, i2⟩
      · go_wp2_with fail
        go_ret
        exact ⟨by rw [HF.out]; rfl, rfl⟩
      · have q1 : decide (f ≤ la) = false := by simpa using i1
        go_wp2_with fail
        go_ret
        exact ⟨by rw [HF.out]; rfl, rfl⟩
    · have GY := zid (all_next hall hyes)
      clear hyes hall
      generalize l.getD k 0 = f at *
      generalize lastOf l k = la at *
      have q1 : decide (f ≤ la) = false := by simpa using i1
      have q2 : decide ((1099511627776 : Int) < f) = false := by simpa using i2
      go_wp2_with fail
      go_round
      case rel => exact ⟨k + 1, by omega, by go_num, by rw [HLS.out], GY.out⟩
      case measure => simp [intOf]; omega
  · have HF := zid (HY.out ⟨by rw [← HFL.out]; omega, by rw [← HFL.out]; omega, fun i hi => HALL.out i (by rw [← HFL.out] at hi; omega)⟩)
    clear hall
    go_wp2_with fail
    go_ret
    exact ⟨by rw [HF.out]; rfl, rfl⟩
theorem maySnap_any (f z c : Int) (w : World) :
 Calls Tryz.prog 172 #[.int .i64 f, .int .i64 z, .int .u32 c] w fun e w' => e = .returned (.bool (decide (SnapOk f z c))) ∧ w = w' := by
 by_cases h0 : f = 0
 · subst h0
   have HV := zid (show decide (SnapOk 0 z c) = (decide (z = 0) && decide (c = 0)) by unfold SnapOk; simp)
   by_cases h1 : z = 0
   · subst h1
     have HW := zid (show (decide (c = 0)) = (c == 0) from by cases h : decide (c = 0) <;> simp_all)
     go_enter Tryz.func172, Tryz.ntmps172
     go_wp2_with fail
     go_ret
     refine ⟨?_, rfl⟩
     rw [HV.out, HW.out]
     rfl
   · have q1 : (z == 0) = false := by simpa using h1
     have HW := zid (show decide (SnapOk 0 z c) = false by rw [HV.out]; simp [h1])
     clear h1
     go_enter Tryz.func172, Tryz.ntmps172
     go_wp2_with fail
     go_ret
     exact ⟨by rw [HW.out]; rfl, rfl⟩
 · have q0 : (f == 0) = false := by simpa using h0
   have HV := zid (show decide (SnapOk f z c) = (decide (1 ≤ z) && decide (z ≤ 65536)) by unfold SnapOk; simp [h0])
   clear h0
   by_cases h1 : 1 ≤ z
   · have HW := zid (show decide (SnapOk f z c) = decide (z ≤ 65536) by rw [HV.out]; simp [h1])
     go_enter Tryz.func172, Tryz.ntmps172
     go_wp2_with fail
     go_ret
     exact ⟨by rw [HW.out]; rfl, rfl⟩
   · have q1 : decide (1 ≤ z) = false := by simpa using h1
     have HW := zid (show decide (SnapOk f z c) = false by rw [HV.out]; simp [h1])
     clear h1
     go_enter Tryz.func172, Tryz.ntmps172
     go_wp2_with fail
     go_ret
     exact ⟨by rw [HW.out]; rfl, rfl⟩
theorem ok_parts (m : Mn) : Ok m ↔ 1 ≤ m.v ∧ m.v ≤ 1099511627776 ∧ HaveOk m.l ∧ SnapOk (m.l.getD 0 0) m.z m.c ∧ 0 ≤ m.c ∧ m.c < 4294967296 :=
 ⟨fun h => ⟨h.v0, h.v1, ⟨h.n0, h.n1, h.at_⟩, h.z, h.c⟩, fun ⟨a, b, ⟨c, d, e⟩, f, g⟩ => ⟨a, b, c, d, e, f, g⟩⟩
theorem right10_any (fa : Option Addr) (fn fc : Nat) (m : Mn) (b : Bool) (w : World) (hv : IsL IL w (.slice fa fn fc) m.l) (hB : MnB m) (hb : b = true ↔ Ok m) :
 Calls Tryz.prog 149 #[mnVal fa fn fc m] w fun e w' => e = .returned (.bool b) ∧ Below w.heap.size w w' := by
 obtain ⟨_, _, c0, c1⟩ := hB
 have HFL := zid hv.len.1
 have HN := zid (show ¬ Ok m → b = false from fun h => by rw [← Bool.not_eq_true, hb]; exact h)
 have HY := zid (show Ok m → b = true from hb.2)
 clear hb
 have HA := zid ((Below.refl w.heap.size w).alloc (Nat.le_refl _) (.cells #[.int .i64 m.v, .slice fa fn fc, .int .i64 m.z, .int .u32 m.c] 82))
 obtain ⟨x0, x1, x2, x3⟩ := cells4 (heap_alloc_new w (.cells #[.int .i64 m.v, .slice fa fn fc, .int .i64 m.z, .int .u32 m.c] 82))
 have HVA := zid (hv.keep HA.out)
 have HOP := zid (ok_parts m)
 obtain ⟨mv, ml, mz, mc⟩ := m
 unfold mnVal
 dsimp only at *
 by_cases g1 : 1 ≤ mv
 case neg =>
  have HF := zid (HN.out fun h => g1 h.v0)
  have e1 : decide (1 ≤ mv) = false := by simpa using g1
  clear hv g1
  go_enter Tryz.func149, Tryz.ntmps149
  go_wp2_with fail
  go_quiet (fail)
  go_wp2_with fail
  go_ret
  exact ⟨by rw [HF.out]; rfl, HA.out.trans ((bel_drewN _).mono HA.out.size)⟩
 by_cases g2 : mv ≤ 1099511627776
 case neg =>
  have HF := zid (HN.out fun h => g2 h.v1)
  have e2 : decide (mv ≤ 1099511627776) = false := by simpa using g2
  clear hv g2
  go_enter Tryz.func149, Tryz.ntmps149
  go_wp2_with fail
  go_quiet (fail)
  go_wp2_with fail
  go_ret
  exact ⟨by rw [HF.out]; rfl, HA.out.trans ((bel_drewN _).mono HA.out.size)⟩
 by_cases g3 : HaveOk ml
 case neg =>
  have HF := zid (HN.out fun h => g3 (HOP.out.1 h).2.2.1)
  have C := zid fun (W : World) (hW : IsL IL W (.slice fa fn fc) ml) => mayHave_any fa fn fc ml false W hW ⟨(fun h => by cases h), fun h => absurd h g3⟩
  clear hv g3
  go_enter Tryz.func149, Tryz.ntmps149
  go_wp2_with fail
  go_quiet ((go_at_call 171; exact Calls.quiet_of_same ((C.out _ (HVA.out.keep (bel_drewN _))).mono fun _ _ ⟨he, hw⟩ => ⟨he, hw.symm⟩)))
  go_wp2_with fail
  go_ret
  exact ⟨by rw [HF.out]; rfl, HA.out.trans ((bel_drewN _).mono HA.out.size)⟩
 have C := zid fun (W : World) (hW : IsL IL W (.slice fa fn fc) ml) => mayHave_any fa fn fc ml true W hW ⟨fun _ => g3, fun _ => rfl⟩
 obtain ⟨g, off, rfl, y0⟩ := il_at HVA.out (show 0 < fn by rw [HFL.out]; exact g3.1)
 rw [Nat.add_zero] at y0
 have D := zid fun W : World => maySnap_any (ml.getD 0 0) mz mc W
 have HD := zid (show decide (SnapOk (ml.getD 0 0) mz mc) = b by
  by_cases h : SnapOk (ml.getD 0 0) mz mc
  · rw [HY.out (HOP.out.2 ⟨g1, g2, g3, h, c0, c1⟩)]; simpa using h
  · rw [HN.out fun hk => h (HOP.out.1 hk).2.2.2.1]; simpa using h)
 rw [HD.out] at D
 have hfn : 0 < fn := by rw [HFL.out]; exact g3.1
 generalize ml.getD 0 0 = f at *
 clear hv g3 HD
 go_enter Tryz.func149, Tryz.ntmps149
 go_wp2_with fail
 go_quiet (first | (go_at_call 171; exact Calls.quiet_of_same ((C.out _ (HVA.out.keep (bel_drewN _))).mono fun _ _ ⟨he, hw⟩ => ⟨he, hw.symm⟩)) | (go_at_call 172; exact Calls.quiet_of_same ((D.out _).mono fun _ _ ⟨he, hw⟩ => ⟨he, hw.symm⟩)))
 go_wp2_with fail
 go_ret
 exact ⟨rfl, HA.out.trans ((bel_drewN _).mono HA.out.size)⟩
theorem put10_no (fa : Option Addr) (fn fc : Nat) (m : Mn) (w : World) (hv : IsL IL w (.slice fa fn fc) m.l) (hB : MnB m) (h : ¬ Ok m) :
 Calls Tryz.prog 120 #[mnVal fa fn fc m] w fun e w' => e = .returned (putVal10 m) ∧ Below w.heap.size w w' := by
 unfold putVal10
 rw [putM_no h]
 dsimp only
 have HA := zid ((Below.refl w.heap.size w).alloc (Nat.le_refl _) (.cells #[.int .i64 m.v, .slice fa fn fc, .int .i64 m.z, .int .u32 m.c] 82))
 have RR := right10_any fa fn fc m false _ (hv.keep HA.out) hB ⟨(fun h => by cases h), fun hk => absurd hk h⟩
 unfold mnVal at *
 replace RR := zid RR
 obtain ⟨mv, ml, mz, mc⟩ := m
 dsimp only at *
 clear hv h
 go_enter Tryz.func120, Tryz.ntmps120
 go_wp2_with fail
 refine RR.out.mono ?_
 rintro e w1 ⟨rfl, b1⟩
 have B1 := zid (HA.out.trans (b1.mono HA.out.size))
 clear b1
 go_wp2_with fail
 go_ret2
 exact ⟨rfl, B1.out⟩
theorem put10_yes (fa : Option Addr) (fn fc : Nat) (m : Mn) (w : World) (hv : IsL IL w (.slice fa fn fc) m.l) (h : Ok m) :
 Calls Tryz.prog 120 #[mnVal fa fn fc m] w fun e w' => e = .returned (putVal10 m) ∧ Below w.heap.size w w' := by
 unfold putVal10
 rw [putM_yes h]
 dsimp only
 have hnn := nums_nonneg h
 have hB : MnB m := ⟨⟨by have := h.v0; omega, by have := h.v1; omega⟩, by rcases h.z with ⟨_, h1, _⟩ | ⟨_, h1, h2⟩ <;> omega, h.c⟩
 have HA := zid ((Below.refl w.heap.size w).alloc (Nat.le_refl _) (.cells #[.int .i64 m.v, .slice fa fn fc, .int .i64 m.z, .int .u32 m.c] 82))
 have G0 := zid (heap_alloc_new w (.cells #[.int .i64 m.v, .slice fa fn fc, .int .i64 m.z, .int .u32 m.c] 82))
 have RR := right10_any fa fn fc m true _ (hv.keep HA.out) hB ⟨fun _ => h, fun _ => rfl⟩
 unfold mnVal at *
 replace RR := zid RR
 have HV := zid hv
 have hfl := hv.len.1
 obtain ⟨C, hC⟩ : ∃ C : Nat, m.c = (C : Int) := ⟨m.c.toNat, by have := h.c; omega⟩
 have hC2 : C < 4294967296 := by have := h.c; omega
 have hv0 := h.v0
 have hv1 := h.v1
 have hn0 : fn ≤ 64 := by rw [hfl]; exact h.n1
 have hz0 : 0 ≤ m.z ∧ m.z ≤ 65536 := by rcases h.z with ⟨_, h1, _⟩ | ⟨_, h1, h2⟩ <;> omega
 have HL := zid fun i (hi : i < fn) => hnn (m.l.getD i 0) (by
  unfold nums
  rw [hfl] at hi
  have e : m.l.getD i 0 = m.l[i] := by simp [List.getD_eq_getElem?_getD, hi]
  rw [e]
  simp)
 have HTK := zid fun i (hi : i < fn) => (show m.l.take (i + 1) = m.l.take i ++ [m.l.getD i 0] from take_snocD (by rw [← hfl]; exact hi))
 have HFR := zid fun (B : ByteArray) (hb : B.data.toList = body m) (W : World) => (show Calls Tryz.prog 150 #[.string B] W fun e w' => e = .returned (.tuple #[.string ⟨(Fr.fr (body m)).toArray⟩, .int .i64 0]) ∧ Below W.heap.size W w' from by
  have hs : B.size = (body m).length := by rw [← hb]; rfl
  have := fput_yes B W (by rw [hs]; exact body_may h)
  rw [hb] at this
  exact this)
 have HBD := zid (show ∀ R, R = puts (m.v :: (fn : Int) :: m.l.take fn) → (⟨R.toArray⟩ ++ ⟨(putI m.z).toArray⟩ ++ ⟨(fourB C).toArray⟩ : ByteArray).data.toList = body m from fun R hR => by
  subst hR
  have e1 : m.l.take fn = m.l := List.take_of_length_le (by rw [hfl]; exact Nat.le_refl _)
  rw [e1, putI_nn hz0.1]
  show puts (m.v :: (fn : Int) :: m.l) ++ Vp.put m.z.toNat ++ fourB C = _
  unfold body nums
  rw [hC, show ((C : Int)).toNat = C from by omega, show (m.v :: (m.l.length : Int) :: (m.l ++ [m.z])) = (m.v :: (m.l.length : Int) :: m.l) ++ [m.z] from rfl, puts_append, puts_one, hfl]
  rfl)
 obtain ⟨mv, ml, mz, mc⟩ := m
 dsimp only at *
 subst hC
 clear hv h hnn hfl
 have hpl : (putI mz).length ≤ 9 := putI_len_le _
 have hp1 : (putI mv).length ≤ 9 := putI_len_le _
 have hp2 : (putI (fn : Int)).length ≤ 9 := putI_len_le _
 have s1 : ¬ 9223372036854775807 < (putI mv).length + (putI (fn : Int)).length := by omega
 have HP0 := zid (show (⟨(putI mv).toArray⟩ ++ ⟨(putI (fn : Int)).toArray⟩ : ByteArray) = ⟨(puts (mv :: (fn : Int) :: ml.take 0)).toArray⟩ by
  rw [ByteArray.mk_append_mk, putI_nn (by omega), putI_nn (by omega), List.take_zero, puts_cons, puts_cons, puts_nil, List.append_nil])
 go_enter Tryz.func120, Tryz.ntmps120
 go_wp2_with fail
 refine RR.out.mono ?_
 rintro e w1 ⟨rfl, b1⟩
 have G1 := zid ((b1.block w.heap.size (Array.getElem?_eq_some_iff.1 G0.out).1).trans G0.out)
 have B1 := HA.out.trans (b1.mono HA.out.size)
 obtain ⟨x0, x1, x2, x3⟩ := cells4 G1.out
 have ST : w1.cell? ⟨w.heap.size, 0, none⟩ = some (.int .i64 mv) ∧ w1.cell? ⟨w.heap.size, 1, none⟩ = some (.slice fa fn fc) ∧ w1.cell? ⟨w.heap.size, 2, none⟩ = some (.int .i64 mz) ∧ w1.cell? ⟨w.heap.size, 3, none⟩ = some (.int .u32 (C : Int)) ∧ Below w.heap.size w w1 := ⟨x0, x1, x2, x3, B1⟩
 clear b1 x0 x1 x2 x3 B1 G0 HA RR
 go_wp2_with fail
 go_region_held3 (fun W => W.cell? ⟨w.heap.size, 0, none⟩ = some (.int .i64 mv) ∧ W.cell? ⟨w.heap.size, 1, none⟩ = some (.slice fa fn fc) ∧ W.cell? ⟨w.heap.size, 2, none⟩ = some (.int .i64 mz) ∧ W.cell? ⟨w.heap.size, 3, none⟩ = some (.int .u32 (C : Int)) ∧ Below w.heap.size w W) (first | assumption | exact keep4 (by assumption) (Below.refl _ _).drew | exact keep4 (by assumption) (by assumption)) (first | (go_at_call 64; refine (put_any _ _ (by omega) (by omega)).mono ?_; rintro e w4 ⟨rfl, b4⟩))
 rename_i qq
 have HS4 := zid qq
 obtain ⟨x0, x1, x2, x3, hbx⟩ := qq
 clear ST hbx
 go_wp2_with fail
 clear x0 x1 x2 x3
 go_loopw [4, 21] (fun s i wr => ∃ (k : Nat) (R : List UInt8), k ≤ fn ∧ i = .int .i64 k ∧ s = .string ⟨R.toArray⟩ ∧ R = puts (mv :: (fn : Int) :: ml.take k) ∧ R.length ≤ 9 * (k + 2) ∧ Hid (wr.cell? ⟨w.heap.size, 0, none⟩ = some (.int .i64 mv) ∧ wr.cell? ⟨w.heap.size, 1, none⟩ = some (.slice fa fn fc) ∧ wr.cell? ⟨w.heap.size, 2, none⟩ = some (.int .i64 mz) ∧ wr.cell? ⟨w.heap.size, 3, none⟩ = some (.int .u32 (C : Int)) ∧ Below w.heap.size w wr))
  (fun _ i _ => fn - (intOf i).toNat)
 case atStart => exact ⟨0, puts (mv :: (fn : Int) :: ml.take 0), Nat.zero_le _, rfl, by rw [HP0.out], rfl, by have := puts_le (mv :: (fn : Int) :: ml.take 0); simp at this ⊢; omega, HS4⟩
 case round =>
  obtain ⟨k, R, hk, rfl, rfl, hR, hRl, HS⟩ := hrel
  have HR := zid hR
  obtain ⟨x0, x1, x2, x3, hbw⟩ := HS.out
  clear hR
  by_cases hlt : k < fn
  · obtain ⟨g, off, rfl, c0⟩ := il_at (HV.out.keep hbw) hlt
    obtain ⟨hf0, hf1⟩ := HL.out k hlt
    have HRS := zid (show puts (mv :: (fn : Int) :: ml.take (k + 1)) = puts (mv :: (fn : Int) :: ml.take k) ++ Vp.put (ml.getD k 0).toNat by
     rw [HTK.out k hlt, show (mv :: (fn : Int) :: (ml.take k ++ [ml.getD k 0])) = (mv :: (fn : Int) :: ml.take k) ++ [ml.getD k 0] from rfl, puts_append, puts_one])
    generalize ml.getD k 0 = f at *
    have P := fun W : World => put_any f W (by omega) (by omega)
    rw [putI_nn hf0] at P
    replace P := zid P
    have hp9 := put_le9 f.toNat
    generalize Vp.put f.toNat = pf at *
    have s2 : ¬ 9223372036854775807 < R.length + pf.length := by omega
    clear hbw
    go_wp2_with fail
    refine (P.out _).mono ?_
    rintro e w5 ⟨rfl, b5⟩
    have HS5 := zid (keep4 HS.out b5)
    clear b5 x0 x1 x2 x3
    go_wp2_with fail
    go_roundw
    case rel => exact ⟨k + 1, R ++ pf, by omega, by go_num, congrArg Value.string (ByteArray.mk_append_mk R pf), by rw [HRS.out, ← HR.out], by rw [List.length_append]; omega, HS5⟩
    case measure => simp [intOf]; omega
  · obtain rfl : k = fn := by omega
    have F := HFR.out _ (HBD.out R HR.out)
    have s2 : ¬ 9223372036854775807 < R.length + (putI mz).length := by omega
    have s3 : ¬ 9223372036854775807 < R.length + (putI mz).length + (fourB C).length := by have : (fourB C).length = 4 := rfl; omega
    replace F := zid F
    have ST2 : wr.cell? ⟨w.heap.size, 0, none⟩ = some (.int .i64 mv) ∧ wr.cell? ⟨w.heap.size, 1, none⟩ = some (.slice fa k fc) ∧ wr.cell? ⟨w.heap.size, 2, none⟩ = some (.int .i64 mz) ∧ wr.cell? ⟨w.heap.size, 3, none⟩ = some (.int .u32 (C : Int)) ∧ Below w.heap.size w wr := HS.out
    clear hbw
    go_wp2_with fail
    clear x0 x1 x2 x3
    go_region_held3 (fun W => W.cell? ⟨w.heap.size, 0, none⟩ = some (.int .i64 mv) ∧ W.cell? ⟨w.heap.size, 1, none⟩ = some (.slice fa k fc) ∧ W.cell? ⟨w.heap.size, 2, none⟩ = some (.int .i64 mz) ∧ W.cell? ⟨w.heap.size, 3, none⟩ = some (.int .u32 (C : Int)) ∧ Below w.heap.size w W) (first | assumption | exact keep4 (by assumption) (Below.refl _ _).drew | exact keep4 (by assumption) (by assumption)) (first | (go_at_call 64; refine (put_any mz _ (by omega) (by omega)).mono ?_; rintro e w6 ⟨rfl, b6⟩) | (go_at_call 151; refine (four_any C _ hC2).mono ?_; rintro e w7 ⟨rfl, b7⟩) | (go_at_call 150; refine (F.out _).mono ?_; rintro e w8 ⟨rfl, b8⟩))
    go_wp2_with fail
    go_ret2
    rename_i qq
    exact ⟨rfl, keep4r qq⟩
theorem put10_any (fa : Option Addr) (fn fc : Nat) (m : Mn) (w : World) (hv : IsL IL w (.slice fa fn fc) m.l) (hB : MnB m) :
 Calls Tryz.prog 120 #[mnVal fa fn fc m] w fun e w' => e = .returned (putVal10 m) ∧ Below w.heap.size w w' := by
 by_cases h : Ok m
 · exact put10_yes fa fn fc m w hv h
 · exact put10_no fa fn fc m w hv hB h
end Mfs
namespace Sto
open Go.RowKit So Dsk Rts
def z5 : Obj := .cells #[.slice none 0 0, .int .i64 0, .bool false, .int .i64 0, .bool false] 28
theorem without12_any (fa : Option Addr) (fn fc : Nat) (D : Dp.Dk) (n : ByteArray) (w : World) (k : Nat) (hv : IsL FL w (.slice fa fn fc) D.f) (hS : Bd D k) (hk : k ≤ 200000) :
 Calls Tryz.prog 126 #[dkVal (.slice fa fn fc) D, .string n] w (DkAns w (.slice fa fn fc) (wo D n)) := by
 have M0 := (((Ms.start (gv := .slice none 0 0) (lg := []) hv (IsL.nil w none 0)).alloc #[.slice fa fn fc, .int .i64 D.c, .bool D.a, .int .i64 D.l, .bool D.x] 28).alloc #[.slice none 0 0, .int .i64 0, .bool false, .int .i64 0, .bool false] 28)
 rw [World.size_alloc] at M0
 have HM0 := zid M0
 obtain ⟨⟨D1, E1⟩, h1⟩ : ∃ R, Dp.delete D n = R := ⟨_, rfl⟩
 have C := zid fun (W : World) (h : IsL FL W (.slice fa fn fc) D.f) => delete_s hS hk n h
 rw [h1] at C
 have HW := zid (show wo D n = (D1, if E1 = 0 then 9 else E1) by unfold wo; rw [h1])
 clear h1 hv hS hk M0
 unfold dkVal at C ⊢
 go_enter Tryz.func126, Tryz.ntmps126
 go_upto_region 1 with (fail)
 generalize World.alloc (World.alloc w _) _ = w0 at HM0 ⊢
 obtain ⟨p0, p1, p2, p3, p4⟩ := cells5 (HM0.out.at_ (mcm mcs))
 go_wp2_with fail
 refine (C.out _ (HM0.out.fl mcs)).mono ?_
 rintro e w1 ⟨a, m, c, rfl, kk⟩
 have M1 := HM0.out.call (D' := D1) mcs kk
 have HM1 := zid M1
 clear p0 p1 p2 p3 p4 kk C
 obtain ⟨p0, p1, p2, p3, p4⟩ := cells5 (M1.at_ (mcm mcs))
 obtain ⟨pf0, pf1, pf2, pf3, pf4⟩ := frozen5 (M1.at_ (mcm mcs))
 clear M1
 unfold dkVal
 go_upto_region 2 with (fail)
 obtain ⟨Z, hZ, M2⟩ := HM1.out.lay5 (cs' := [(w.heap.size + 1, z5), (w.heap.size, .cells #[.slice a m c, .int .i64 D1.c, .bool D1.a, .int .i64 D1.l, .bool D1.x] 28)]) (mcm mcs) (.slice a m c) (.int .i64 D1.c) (.bool D1.a) (.int .i64 D1.l) (.bool D1.x) (fun p hp => by
  simp only [List.mem_cons, List.not_mem_nil, or_false] at hp
  rcases hp with rfl | rfl
  · exact .inr ⟨mcs, by show w.heap.size + 1 ≠ w.heap.size; omega⟩
  · exact .inl rfl)
 rw [hZ]
 have HM2 := zid M2
 clear hZ p0 p1 p2 p3 p4 pf0 pf1 pf2 pf3 pf4 HM0 HM1
 obtain ⟨p0, p1, p2, p3, p4⟩ := cells5 (M2.at_ (mcm mcs))
 obtain ⟨q0, q1, q2, q3, q4⟩ := cells5 (M2.at_ mcs)
 obtain ⟨qf0, qf1, qf2, qf3, qf4⟩ := frozen5 (M2.at_ mcs)
 obtain ⟨Y, hY, M3⟩ := M2.lay5 (cs' := [(w.heap.size + 1, .cells #[.slice a m c, .int .i64 D1.c, .bool D1.a, .int .i64 D1.l, .bool D1.x] 28)]) mcs (.slice a m c) (.int .i64 D1.c) (.bool D1.a) (.int .i64 D1.l) (.bool D1.x) (fun p hp => by
  simp only [List.mem_cons, List.not_mem_nil, or_false] at hp
  subst hp
  exact .inl rfl)
 have HY := zid hY
 have HM3 := zid M3
 clear M2 M3 hY
 by_cases hz : E1 = 0
 · subst hz
   go_wp2_with fail
   rw [HY.out]
   obtain ⟨z0, z1, z2, z3, z4⟩ := cells5 (HM3.out.at_ mcs)
   refine bodyPost_ret (v := .tuple #[.agg #[.slice a m c, .int .i64 D1.c, .bool D1.a, .int .i64 D1.l, .bool D1.x], .int .i64 9]) (by simp [results, Tryz.results126, go_sem, z0, z1, z2, z3, z4]) rfl ?_
   rw [HW.out]
   exact ⟨_, _, _, rfl, HM3.out.dks mcs⟩
 · have hz' := ne_b hz
   have HZ := zid hz
   clear hz
   go_wp2_with fail
   rw [HY.out]
   obtain ⟨z0, z1, z2, z3, z4⟩ := cells5 (HM3.out.at_ mcs)
   refine bodyPost_ret (v := .tuple #[.agg #[.slice a m c, .int .i64 D1.c, .bool D1.a, .int .i64 D1.l, .bool D1.x], .int .i64 E1]) (by simp [results, Tryz.results126, go_sem, z0, z1, z2, z3, z4]) rfl ?_
   rw [HW.out, if_neg HZ.out]
   exact ⟨_, _, _, rfl, HM3.out.dks mcs⟩
def Sw (w : World) (fv : Value) (M : Obj) (e : Nat) (v : Value) (X : Dp.Dk × Int) (W : World) : Prop := Tk w w.heap.size fv (.slice none 0 0) w.heap.size e (e + 1) form5 28 [(w.heap.size + 1, M), (w.heap.size + 1 + 1, z5)] [] v X W
def SwR (w : World) (fv : Value) (M : Obj) (e : Nat) (X : Dp.Dk × Int) (W : World) : Prop := ∃ a n c, Sw w fv M e (.slice a n c) X W
theorem swap12_any (fa : Option Addr) (fn fc : Nat) (D : Dp.Dk) (ma : Option Addr) (mn mc : Nat) (m : Qm.Mn) (w : World) (k : Nat) (hv : IsL FL w (.slice fa fn fc) D.f) (hm : IsL Mfs.IL w (.slice ma mn mc) m.l) (hS : Bd D k) (hk : k ≤ 100000) (hM : Mfs.MnB m) :
 Calls Tryz.prog 74 #[dkVal (.slice fa fn fc) D, Mfs.mnVal ma mn mc m] w (DkAns w (.slice fa fn fc) (swap D m)) := by
 have M0 := (((Ms.start (gv := .slice none 0 0) (lg := []) hv (IsL.nil w none 0)).alloc #[.slice fa fn fc, .int .i64 D.c, .bool D.a, .int .i64 D.l, .bool D.x] 28).alloc #[.int .i64 m.v, .slice ma mn mc, .int .i64 m.z, .int .u32 m.c] 82).alloc #[.slice none 0 0, .int .i64 0, .bool false, .int .i64 0, .bool false] 28
 simp only [World.size_alloc] at M0
 have HM0 := zid M0
 have HI0 := zid (hm.keep (((al_bel w (.cells #[.slice fa fn fc, .int .i64 D.c, .bool D.a, .int .i64 D.l, .bool D.x] 28)).alloc (al_bel w _).size (.cells #[.int .i64 m.v, .slice ma mn mc, .int .i64 m.z, .int .u32 m.c] 82)).alloc (by simp; omega) (.cells #[.slice none 0 0, .int .i64 0, .bool false, .int .i64 0, .bool false] 28)))
 have P := fun (W : World) (h : IsL Mfs.IL W (.slice ma mn mc) m.l) => Mfs.put10_any ma mn mc m W h hM
 have hsz := put_size m
 have HSW := swap_p D m
 unfold swapP swapX at HSW
 unfold Mfs.putVal10 at P
 obtain ⟨s, hs⟩ : ∃ s : ByteArray, (⟨(Qm.putM m).1.toArray⟩ : ByteArray) = s := ⟨_, rfl⟩
 obtain ⟨E0, hE0⟩ : ∃ E0, (Qm.putM m).2 = E0 := ⟨_, rfl⟩
 rw [hs] at P HSW hsz
 rw [hE0] at P HSW
 dsimp only at HSW
 have c1 : Bd (if (Dp.get D.f nn).isSome = true then tk (D, E0) (Dp.delete D nn) else (D, E0)).1 (k + 1) := by
  split
  · exact bd_tk hS (bd_delete hS nn)
  · exact hS.mono (Nat.le_succ k)
 have HX1y := fun h : (Dp.get D.f nn).isSome = true => (if_pos h : (if (Dp.get D.f nn).isSome = true then tk (D, E0) (Dp.delete D nn) else (D, E0)) = _)
 have HX1n := fun h : ¬ (Dp.get D.f nn).isSome = true => (if_neg h : (if (Dp.get D.f nn).isSome = true then tk (D, E0) (Dp.delete D nn) else (D, E0)) = _)
 obtain ⟨X1, hX1⟩ : ∃ X1, (if (Dp.get D.f nn).isSome = true then tk (D, E0) (Dp.delete D nn) else (D, E0)) = X1 := ⟨_, rfl⟩
 rw [hX1] at HSW c1 HX1y HX1n
 have c2 := bd_tk c1 (bd_create c1 nn)
 obtain ⟨X2, hX2⟩ : ∃ X, tk X1 (Dp.create X1.1 nn) = X := ⟨_, rfl⟩
 rw [hX2] at HSW c2
 have c3 := bd_tk c2 (bd_append c2 nn hsz)
 obtain ⟨X3, hX3⟩ : ∃ X, tk X2 (Dp.append X2.1 nn s) = X := ⟨_, rfl⟩
 rw [hX3] at HSW c3
 have c4 := bd_tk c3 (bd_sync c3 nn)
 obtain ⟨X4, hX4⟩ : ∃ X, tk X3 (Dp.sync X3.1 nn) = X := ⟨_, rfl⟩
 rw [hX4] at HSW c4
 obtain ⟨X5, hX5⟩ : ∃ X, tk X4 (Dp.rename X4.1 nn nm) = X := ⟨_, rfl⟩
 rw [hX5] at HSW
 have HC := zid (And.intro c1 (And.intro c2 (And.intro c3 (And.intro c4 (And.intro hS hsz)))))
 have HX2 := zid hX2
 have HX3 := zid hX3
 have HX4 := zid hX4
 have HX5 := zid hX5
 replace HX1y := zid HX1y
 replace HX1n := zid HX1n
 replace HSW := zid HSW
 replace P := zid P
 have HAS := zid fun (v : Value) (W : World) (h : IsL FL W v D.f) => has12_any v D nn W h (bd_sm3 hS (by omega))
 clear hv hm hS hM hsz hs hE0 c1 c2 c3 c4 hX1 hX2 hX3 hX4 hX5 M0
 unfold dkVal Mfs.mnVal
 unfold dkVal at HAS
 unfold Mfs.mnVal at P
 go_enter Tryz.func74, Tryz.ntmps74
 go_upto_region 1 with (fail)
 generalize World.alloc (World.alloc (World.alloc w _) _) _ = w0 at HM0 HI0 ⊢
 obtain ⟨m0, m1, m2, m3⟩ := cellsM (HM0.out.at_ (mcm mcs))
 go_wp2_with fail
 refine (P.out _ HI0.out).mono ?_
 rintro e w1 ⟨rfl, b1⟩
 have HM1 := zid ((HM0.out.keep b1).alloc #[.int .i64 E0] 36)
 have hle : w.heap.size + 1 + 1 < w1.heap.size := Nat.lt_of_lt_of_le (HM0.out.lt mcs) b1.size
 clear b1 m0 m1 m2 m3 HI0 HM0 P
 go_wp2_with fail
 refine (taking_any _ _ _).mono ?_
 rintro en w2 ⟨rfl, rfl⟩
 have T2 := Tk.new (A := form5) (T := 28) (t := w.heap.size) (e := w1.heap.size) (v := .slice fa fn fc) (X := (D, E0)) (xs := [(w.heap.size + 1, .cells #[.int .i64 m.v, .slice ma mn mc, .int .i64 m.z, .int .u32 m.c] 82), (w.heap.size + 1 + 1, z5)]) (gs := []) (HM1.out.sub (fun p hp => by
  simp only [List.mem_cons, List.not_mem_nil, or_false] at hp ⊢
  rcases hp with rfl | rfl | rfl | rfl
  · exact .inr (.inr (.inr rfl))
  · exact .inl rfl
  · exact .inr (.inr (.inl rfl))
  · exact .inr (.inl rfl)) (fun _ hp => hp) (fun _ hp => absurd hp List.not_mem_nil)) (by omega) (fun p hp => by
  simp only [List.mem_cons, List.not_mem_nil, or_false] at hp
  rcases hp with rfl | rfl
  · exact ⟨by show w.heap.size + 1 ≠ w.heap.size; omega, by show w.heap.size + 1 ≠ w1.heap.size; omega⟩
  · exact ⟨by show w.heap.size + 1 + 1 ≠ w.heap.size; omega, by show w.heap.size + 1 + 1 ≠ w1.heap.size; omega⟩)
 simp only [World.size_alloc] at T2 ⊢
 obtain ⟨e, he⟩ : ∃ e, w1.heap.size = e := ⟨_, rfl⟩
 rw [he] at T2 ⊢
 obtain ⟨M, hM⟩ : ∃ M : Obj, Obj.cells #[.int .i64 m.v, .slice ma mn mc, .int .i64 m.z, .int .u32 m.c] 82 = M := ⟨_, rfl⟩
 rw [hM] at T2
 generalize World.alloc (World.alloc (World.alloc w1 _) _) _ = w2 at T2 ⊢
 have HT2 := zid (show Sw w (.slice fa fn fc) M e (.slice fa fn fc) (D, E0) w2 from T2)
 obtain ⟨p0, p1, p2, p3, p4⟩ := cells5 T2.hd
 clear T2 hle HM1 he hM
 go_wp2_with fail
 refine (HAS.out _ _ HT2.out.fl).mono ?_
 rintro en w3 ⟨rfl, b3⟩
 have HT3 := zid (HT2.out.keep b3)
 clear p0 p1 p2 p3 p4 b3 HAS HT2
 go_upto_if 16 with (fail)
 go_cut [6] (fun v wc => v = .string s ∧ SwR w (.slice fa fn fc) M e X1 wc)
 case first =>
  rcases hb : (Dp.get D.f nn).isSome with _ | _
  · have HB := zid (show ¬ (Dp.get D.f nn).isSome = true by rw [hb]; simp)
    clear hb
    go_wp2_with fail
    go_meet
    case rel => exact ⟨rfl, _, _, _, by rw [HX1n.out HB.out]; exact HT3.out⟩
  · have HB := zid hb
    clear hb
    go_wp2_with fail
    refine (deleted_any nn _).mono ?_
    rintro en w4 ⟨rfl, rfl⟩
    go_wp2_with fail
    refine (Tk.take form5_is (HT3.out.al _) (stp_deleted HC.out.2.2.2.2.1 (by omega) nn HT3.out.fl)).mono ?_
    rintro en w5 ⟨rfl, a5, n5, c5, T5⟩
    have HT5 := zid T5
    clear T5
    go_wp2_with fail
    go_meet
    case rel => exact ⟨rfl, _, _, _, by rw [HX1y.out HB.out]; exact HT5.out⟩
 case rest =>
  obtain ⟨rfl, a3, n3, c3, T4⟩ := hcut
  have HT4 := zid T4
  clear T4 HT3 HX1y HX1n
  go_wp2_with fail
  refine (created_any nn _).mono ?_
  rintro en w4 ⟨rfl, rfl⟩
  go_wp2_with fail
  refine (Tk.take form5_is (HT4.out.al _) (stp_created HC.out.1 (by omega) nn (by decide) HT4.out.fl)).mono ?_
  rintro en w5 ⟨rfl, a5, n5, c5, T5⟩
  rw [HX2.out] at T5
  have HT5 := zid T5
  clear T5 HT4
  go_wp2_with fail
  refine (appended_any nn s _).mono ?_
  rintro en w6 ⟨rfl, rfl⟩
  go_wp2_with fail
  refine (Tk.take form5_is (HT5.out.al2 _ _) (stp_appended HC.out.2.1 (by omega) nn s HC.out.2.2.2.2.2 HT5.out.fl)).mono ?_
  rintro en w7 ⟨rfl, a7, n7, c7, T7⟩
  rw [HX3.out] at T7
  have HT7 := zid T7
  obtain ⟨ec, _⟩ := cells1 T7.he
  clear T7 HT5
  by_cases h9 : X3.2 = 9
  · have H9 := zid h9
    obtain ⟨⟨WD, WE⟩, hW⟩ : ∃ R, wo X3.1 nn = R := ⟨_, rfl⟩
    have CW := without12_any a7 n7 c7 X3.1 nn w7 _ HT7.out.fl HC.out.2.2.1 (by omega)
    rw [hW] at CW
    have HF := zid (show swap D m = (WD, WE) by rw [HSW.out, if_pos h9, hW])
    unfold dkVal at CW
    replace CW := zid CW
    obtain ⟨p0, p1, p2, p3, p4⟩ := cells5 HT7.out.hd
    rw [h9] at ec
    clear hW h9
    go_wp2_with fail
    refine CW.out.mono ?_
    rintro en w8 ⟨a8, n8, c8, rfl, kk⟩
    have M8 := HT7.out.m.call (D' := WD) mcs kk
    have hz := M8.at_ (t := w.heap.size + 1 + 1) (o := z5) (mcm (mcm (mcm (mcm (mcm mcs)))))
    obtain ⟨q0, q1, q2, q3, q4⟩ := cells5 hz
    obtain ⟨qf0, qf1, qf2, qf3, qf4⟩ := frozen5 hz
    obtain ⟨Z, hZ, M9⟩ := M8.lay5 (cs' := [(w.heap.size + 1 + 1, .cells #[.slice a8 n8 c8, .int .i64 WD.c, .bool WD.a, .int .i64 WD.l, .bool WD.x] 28)]) (t := w.heap.size + 1 + 1) (mcm (mcm (mcm (mcm (mcm mcs))))) (.slice a8 n8 c8) (.int .i64 WD.c) (.bool WD.a) (.int .i64 WD.l) (.bool WD.x) (fun p hp => by
     simp only [List.mem_cons, List.not_mem_nil, or_false] at hp
     subst hp
     exact .inl rfl)
    have HZ := zid hZ
    have HM9 := zid M9
    clear kk M8 hz hZ M9 CW p0 p1 p2 p3 p4 ec
    unfold dkVal
    go_wp2_with fail
    rw [HZ.out]
    obtain ⟨z0, z1, z2, z3, z4⟩ := cells5 (HM9.out.at_ mcs)
    refine bodyPost_ret (v := .tuple #[.agg #[.slice a8 n8 c8, .int .i64 WD.c, .bool WD.a, .int .i64 WD.l, .bool WD.x], .int .i64 WE]) (by simp [results, Tryz.results74, go_sem, z0, z1, z2, z3, z4]) rfl ?_
    rw [HF.out]
    exact ⟨_, _, _, rfl, HM9.out.dks mcs⟩
  · have HF := zid (show swap D m = X5 by rw [HSW.out, if_neg h9])
    have h9' := ne_b h9
    clear h9
    go_wp2_with fail
    clear ec
    refine (synced_any nn _).mono ?_
    rintro en w8 ⟨rfl, rfl⟩
    go_wp2_with fail
    refine (Tk.take form5_is (HT7.out.al _) (stp_synced HC.out.2.2.1 (by omega) nn HT7.out.fl)).mono ?_
    rintro en w9 ⟨rfl, a9, n9, c9, T9⟩
    rw [HX4.out] at T9
    have HT9 := zid T9
    clear T9 HT7
    go_wp2_with fail
    refine (renamed_any nn nm _).mono ?_
    rintro en w10 ⟨rfl, rfl⟩
    go_wp2_with fail
    refine (Tk.take form5_is (HT9.out.al2 _ _) (stp_renamed HC.out.2.2.2.1 (by omega) nn nm (by decide) HT9.out.fl)).mono ?_
    rintro en w11 ⟨rfl, a11, n11, c11, T11⟩
    rw [HX5.out] at T11
    have HT11 := zid T11
    obtain ⟨p0, p1, p2, p3, p4⟩ := cells5 T11.hd
    obtain ⟨ec, _⟩ := cells1 T11.he
    have hz := T11.hx (i := w.heap.size + 1 + 1) (o := z5) (mcm mcs)
    obtain ⟨q0, q1, q2, q3, q4⟩ := cells5 hz
    obtain ⟨qf0, qf1, qf2, qf3, qf4⟩ := frozen5 hz
    obtain ⟨XD, XE⟩ := X5
    have LY := zid fun (W : World) (b : Below w11.heap.size w11 W) => (HT11.out.keep b).m.lay5 (cs' := [(w.heap.size + 1 + 1, .cells #[.slice a11 n11 c11, .int .i64 XD.c, .bool XD.a, .int .i64 XD.l, .bool XD.x] 28)]) (t := w.heap.size + 1 + 1) (mcm (mcm (mcm (mcm (mcm mcs))))) (.slice a11 n11 c11) (.int .i64 XD.c) (.bool XD.a) (.int .i64 XD.l) (.bool XD.x) (fun p hp => by
     simp only [List.mem_cons, List.not_mem_nil, or_false] at hp
     subst hp
     exact .inl rfl)
    have hne := (T11.n3 (w.heap.size + 1 + 1, z5) (mcm mcs)).2
    have ne1 : ¬ (w.heap.size + 1 + 1 = e) := hne
    have ne2 : ¬ (e = w.heap.size + 1 + 1) := fun h => hne h.symm
    clear T11 HT9 hz hne
    dsimp only at p0 p1 p2 p3 p4 ec
    go_upto_region 11 with (fail)
    go_region
    all_goals
     go_wp2_with fail
     obtain ⟨Z, hZ, M8⟩ := LY.out w11 (Below.refl _ _)
     rw [hZ]
     have M9 := M8.keep (W' := Z.drew) (Below.refl _ _).drew
     obtain ⟨z0, z1, z2, z3, z4⟩ := cells5 (M9.at_ mcs)
     refine bodyPost_ret (v := .tuple #[.agg #[.slice a11 n11 c11, .int .i64 XD.c, .bool XD.a, .int .i64 XD.l, .bool XD.x], .int .i64 XE]) (by simp [results, Tryz.results74, go_sem, z0, z1, z2, z3, z4]) rfl ?_
     rw [HF.out]
     exact ⟨_, _, _, rfl, M9.dks mcs⟩
end Sto
end Go.Proofs.YtijbpdpkoamhbaaGreat

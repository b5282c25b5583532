/-
  What the document's Put of layer 10 answers.
-/
import Derived.Test.YtcogeflljcefjaaManVal
import Derived.Test.YtcogeflljcefjaaFrameRef
import Derived.Deep.RegionHeld3
namespace Go.Proofs.Ytcogeflljcefjaa.Mfs
open Go.RowKit Go.Proofs.Ytcogeflljcefjaa.Qm

theorem putI_nn {n : Int} (h : 0 ≤ n) : putI n = Vp.put n.toNat := by unfold putI; rw [if_neg (by omega)]
theorem keep4 {w w1 w2 : World} {a : Nat} {x y z u : Value} (h : w1.cell? ⟨a, 0, none⟩ = some x ∧ w1.cell? ⟨a, 1, none⟩ = some y ∧ w1.cell? ⟨a, 2, none⟩ = some z ∧ w1.cell? ⟨a, 3, none⟩ = some u ∧ Below w.heap.size w w1) (b : Below w1.heap.size w1 w2) :
    w2.cell? ⟨a, 0, none⟩ = some x ∧ w2.cell? ⟨a, 1, none⟩ = some y ∧ w2.cell? ⟨a, 2, none⟩ = some z ∧ w2.cell? ⟨a, 3, none⟩ = some u ∧ Below w.heap.size w w2 :=
  ⟨(b.cell (p := ⟨a, 0, none⟩) (block_lt_of_cell h.1)).trans h.1, (b.cell (p := ⟨a, 1, none⟩) (block_lt_of_cell h.2.1)).trans h.2.1, (b.cell (p := ⟨a, 2, none⟩) (block_lt_of_cell h.2.2.1)).trans h.2.2.1, (b.cell (p := ⟨a, 3, none⟩) (block_lt_of_cell h.2.2.2.1)).trans h.2.2.2.1, h.2.2.2.2.trans (b.mono h.2.2.2.2.size)⟩
theorem keep4r {w w1 : World} {a : Nat} {x y z u : Value} (h : w1.cell? ⟨a, 0, none⟩ = some x ∧ w1.cell? ⟨a, 1, none⟩ = some y ∧ w1.cell? ⟨a, 2, none⟩ = some z ∧ w1.cell? ⟨a, 3, none⟩ = some u ∧ Below w.heap.size w w1) : Below w.heap.size w w1 := h.2.2.2.2
/-- What both Puts answer. -/
noncomputable def putVal10 (m : Mn) : Value := .tuple #[.string ⟨(putM m).1.toArray⟩, .int .i64 (putM m).2]

set_option maxRecDepth 100000 in
set_option maxHeartbeats 1600000 in
theorem rput10_no (fa : Option Addr) (fn fc : Nat) (m : Mn) (w : World) (hv : IsL IL w (.slice fa fn fc) m.l) (hB : MnB m) (h : ¬ Ok m) :
    Calls Try.prog 8 #[mnVal fa fn fc m] w fun e w' => e = .returned (putVal10 m) ∧ Below w.heap.size w w' := by
  unfold putVal10
  rw [putM_no h]
  dsimp only
  have HA := Lib.hid ((Below.refl w.heap.size w).alloc (Nat.le_refl _) (.cells #[.int .i64 m.v, .slice fa fn fc, .int .i64 m.z, .int .u32 m.c] 25))
  have RR := rright10_any fa fn fc m false _ (hv.keep HA.out) hB ⟨(fun h => by cases h), fun hk => absurd hk h⟩
  unfold mnVal at *
  replace RR := Lib.hid RR
  obtain ⟨mv, ml, mz, mc⟩ := m
  dsimp only at *
  clear hv h
  go_enter Try.func8, Try.ntmps8
  go_wp2_with fail
  refine RR.out.mono ?_
  rintro e w1 ⟨rfl, b1⟩
  have B1 := Lib.hid (HA.out.trans (b1.mono HA.out.size))
  clear b1
  go_wp2_with fail
  go_ret2
  exact ⟨rfl, B1.out⟩

set_option maxRecDepth 100000 in
set_option maxHeartbeats 3200000 in
theorem rput10_yes (fa : Option Addr) (fn fc : Nat) (m : Mn) (w : World) (hv : IsL IL w (.slice fa fn fc) m.l) (h : Ok m) :
    Calls Try.prog 8 #[mnVal fa fn fc m] w fun e w' => e = .returned (putVal10 m) ∧ Below w.heap.size w w' := by
  unfold putVal10
  rw [putM_yes h]
  dsimp only
  have hnn := nums_nonneg h
  have hB : MnB m := ⟨⟨by have := h.v0; omega, by have := h.v1; omega⟩, by rcases h.z with ⟨_, h1, _⟩ | ⟨_, h1, h2⟩ <;> omega, h.c⟩
  have HA := Lib.hid ((Below.refl w.heap.size w).alloc (Nat.le_refl _) (.cells #[.int .i64 m.v, .slice fa fn fc, .int .i64 m.z, .int .u32 m.c] 25))
  have G0 := Lib.hid (heap_alloc_new w (.cells #[.int .i64 m.v, .slice fa fn fc, .int .i64 m.z, .int .u32 m.c] 25))
  have RR := rright10_any fa fn fc m true _ (hv.keep HA.out) hB ⟨fun _ => h, fun _ => rfl⟩
  unfold mnVal at *
  replace RR := Lib.hid RR
  have HV := Lib.hid hv
  have hfl := hv.len.1
  obtain ⟨C, hC⟩ : ∃ C : Nat, m.c = (C : Int) := ⟨m.c.toNat, by have := h.c; omega⟩
  have hC2 : C < 4294967296 := by have := h.c; omega
  have hv0 := h.v0
  have hv1 := h.v1
  have hn0 : fn ≤ 64 := by rw [hfl]; exact h.n1
  have hz0 : 0 ≤ m.z ∧ m.z ≤ 65536 := by rcases h.z with ⟨_, h1, _⟩ | ⟨_, h1, h2⟩ <;> omega
  have HL := Lib.hid fun i (hi : i < fn) => hnn (m.l.getD i 0) (by
    unfold nums
    rw [hfl] at hi
    have e : m.l.getD i 0 = m.l[i] := by simp [List.getD_eq_getElem?_getD, hi]
    rw [e]
    simp)
  have HTK := Lib.hid fun i (hi : i < fn) => (show m.l.take (i + 1) = m.l.take i ++ [m.l.getD i 0] from take_snocD (by rw [← hfl]; exact hi))
  have HFR := Lib.hid fun (B : ByteArray) (hb : B.data.toList = body m) (W : World) => (show Calls Try.prog 14 #[.string B] W fun e w' => e = .returned (.tuple #[.string ⟨(Fr.fr (body m)).toArray⟩, .int .i64 0]) ∧ Below W.heap.size W w' from by
    have hs : B.size = (body m).length := by rw [← hb]; rfl
    have := rfput_yes B W (by rw [hs]; exact body_may h)
    rw [hb] at this
    exact this)
  have HBD := Lib.hid (show ∀ R, R = puts (m.v :: (fn : Int) :: m.l.take fn) → (⟨R.toArray⟩ ++ ⟨(putI m.z).toArray⟩ ++ ⟨(fourB C).toArray⟩ : ByteArray).data.toList = body m from fun R hR => by
    subst hR
    have e1 : m.l.take fn = m.l := List.take_of_length_le (by rw [hfl]; exact Nat.le_refl _)
    rw [e1, putI_nn hz0.1]
    show puts (m.v :: (fn : Int) :: m.l) ++ Vp.put m.z.toNat ++ fourB C = _
    unfold body nums
    rw [hC, show ((C : Int)).toNat = C from by omega, show (m.v :: (m.l.length : Int) :: (m.l ++ [m.z])) = (m.v :: (m.l.length : Int) :: m.l) ++ [m.z] from rfl, puts_append, puts_one, hfl]
    rfl)
  obtain ⟨mv, ml, mz, mc⟩ := m
  dsimp only at *
  subst hC
  clear hv h hnn hfl
  have hpl : (putI mz).length ≤ 9 := putI_len_le _
  have hp1 : (putI mv).length ≤ 9 := putI_len_le _
  have hp2 : (putI (fn : Int)).length ≤ 9 := putI_len_le _
  have s1 : ¬ 9223372036854775807 < (putI mv).length + (putI (fn : Int)).length := by omega
  have HP0 := Lib.hid (show (⟨(putI mv).toArray⟩ ++ ⟨(putI (fn : Int)).toArray⟩ : ByteArray) = ⟨(puts (mv :: (fn : Int) :: ml.take 0)).toArray⟩ by
    rw [ByteArray.mk_append_mk, putI_nn (by omega), putI_nn (by omega), List.take_zero, puts_cons, puts_cons, puts_nil, List.append_nil])
  go_enter Try.func8, Try.ntmps8
  go_wp2_with fail
  refine RR.out.mono ?_
  rintro e w1 ⟨rfl, b1⟩
  have G1 := Lib.hid ((b1.block w.heap.size (Array.getElem?_eq_some_iff.1 G0.out).1).trans G0.out)
  have B1 := HA.out.trans (b1.mono HA.out.size)
  obtain ⟨x0, x1, x2, x3⟩ := cells4 G1.out
  have ST : w1.cell? ⟨w.heap.size, 0, none⟩ = some (.int .i64 mv) ∧ w1.cell? ⟨w.heap.size, 1, none⟩ = some (.slice fa fn fc) ∧ w1.cell? ⟨w.heap.size, 2, none⟩ = some (.int .i64 mz) ∧ w1.cell? ⟨w.heap.size, 3, none⟩ = some (.int .u32 (C : Int)) ∧ Below w.heap.size w w1 := ⟨x0, x1, x2, x3, B1⟩
  clear b1 x0 x1 x2 x3 B1 G0 HA RR
  go_wp2_with fail
  go_region_held3 (fun W => W.cell? ⟨w.heap.size, 0, none⟩ = some (.int .i64 mv) ∧ W.cell? ⟨w.heap.size, 1, none⟩ = some (.slice fa fn fc) ∧ W.cell? ⟨w.heap.size, 2, none⟩ = some (.int .i64 mz) ∧ W.cell? ⟨w.heap.size, 3, none⟩ = some (.int .u32 (C : Int)) ∧ Below w.heap.size w W) (first | assumption | exact keep4 (by assumption) (Below.refl _ _).drew | exact keep4 (by assumption) (by assumption)) (first | (go_at_call 18; refine (rput_any _ _ (by omega) (by omega)).mono ?_; rintro e w4 ⟨rfl, b4⟩))
  rename_i qq
  have HS4 := Lib.hid qq
  clear qq ST
  go_wp2_with fail
  go_loopw [4, 5] (fun s i wr => ∃ (k : Nat) (R : List UInt8), k ≤ fn ∧ i = .int .i64 k ∧ s = .string ⟨R.toArray⟩ ∧ R = puts (mv :: (fn : Int) :: ml.take k) ∧ R.length ≤ 9 * (k + 2) ∧ Hid (wr.cell? ⟨w.heap.size, 0, none⟩ = some (.int .i64 mv) ∧ wr.cell? ⟨w.heap.size, 1, none⟩ = some (.slice fa fn fc) ∧ wr.cell? ⟨w.heap.size, 2, none⟩ = some (.int .i64 mz) ∧ wr.cell? ⟨w.heap.size, 3, none⟩ = some (.int .u32 (C : Int)) ∧ Below w.heap.size w wr))
    (fun _ i _ => fn - (intOf i).toNat)
  case atStart => exact ⟨0, puts (mv :: (fn : Int) :: ml.take 0), Nat.zero_le _, rfl, by rw [HP0.out], rfl, by have := puts_le (mv :: (fn : Int) :: ml.take 0); simp at this ⊢; omega, HS4⟩
  case round =>
    obtain ⟨k, R, hk, rfl, rfl, hR, hRl, HS⟩ := hrel
    have HR := Lib.hid hR
    obtain ⟨x0, x1, x2, x3, hbw⟩ := HS.out
    clear hR
    by_cases hlt : k < fn
    · obtain ⟨g, off, rfl, c0⟩ := il_at (HV.out.keep hbw) hlt
      obtain ⟨hf0, hf1⟩ := HL.out k hlt
      have HRS := Lib.hid (show puts (mv :: (fn : Int) :: ml.take (k + 1)) = puts (mv :: (fn : Int) :: ml.take k) ++ Vp.put (ml.getD k 0).toNat by
        rw [HTK.out k hlt, show (mv :: (fn : Int) :: (ml.take k ++ [ml.getD k 0])) = (mv :: (fn : Int) :: ml.take k) ++ [ml.getD k 0] from rfl, puts_append, puts_one])
      generalize ml.getD k 0 = f at *
      have P := fun W : World => rput_any f W (by omega) (by omega)
      rw [putI_nn hf0] at P
      replace P := Lib.hid P
      have hp9 := put_le9 f.toNat
      generalize Vp.put f.toNat = pf at *
      have s2 : ¬ 9223372036854775807 < R.length + pf.length := by omega
      clear hbw
      go_wp2_with fail
      refine (P.out _).mono ?_
      rintro e w5 ⟨rfl, b5⟩
      have HS5 := Lib.hid (keep4 HS.out b5)
      clear b5 x0 x1 x2 x3
      go_wp2_with fail
      go_roundw
      case rel => exact ⟨k + 1, R ++ pf, by omega, by go_num, congrArg Value.string (ByteArray.mk_append_mk R pf), by rw [HRS.out, ← HR.out], by rw [List.length_append]; omega, HS5⟩
      case measure => simp [intOf]; omega
    · obtain rfl : k = fn := by omega
      have F := HFR.out _ (HBD.out R HR.out)
      have s2 : ¬ 9223372036854775807 < R.length + (putI mz).length := by omega
      have s3 : ¬ 9223372036854775807 < R.length + (putI mz).length + (fourB C).length := by have : (fourB C).length = 4 := rfl; omega
      replace F := Lib.hid F
      have ST2 : wr.cell? ⟨w.heap.size, 0, none⟩ = some (.int .i64 mv) ∧ wr.cell? ⟨w.heap.size, 1, none⟩ = some (.slice fa k fc) ∧ wr.cell? ⟨w.heap.size, 2, none⟩ = some (.int .i64 mz) ∧ wr.cell? ⟨w.heap.size, 3, none⟩ = some (.int .u32 (C : Int)) ∧ Below w.heap.size w wr := HS.out
      clear hbw
      go_wp2_with fail
      clear x0 x1 x2 x3
      go_region_held3 (fun W => W.cell? ⟨w.heap.size, 0, none⟩ = some (.int .i64 mv) ∧ W.cell? ⟨w.heap.size, 1, none⟩ = some (.slice fa k fc) ∧ W.cell? ⟨w.heap.size, 2, none⟩ = some (.int .i64 mz) ∧ W.cell? ⟨w.heap.size, 3, none⟩ = some (.int .u32 (C : Int)) ∧ Below w.heap.size w W) (first | assumption | exact keep4 (by assumption) (Below.refl _ _).drew | exact keep4 (by assumption) (by assumption)) (first | (go_at_call 18; refine (rput_any mz _ (by omega) (by omega)).mono ?_; rintro e w6 ⟨rfl, b6⟩) | (go_at_call 19; refine (rfour_any C _ hC2).mono ?_; rintro e w7 ⟨rfl, b7⟩) | (go_at_call 14; refine (F.out _).mono ?_; rintro e w8 ⟨rfl, b8⟩))
      go_wp2_with fail
      go_ret2
      rename_i qq
      exact ⟨rfl, keep4r qq⟩

theorem rput10_any (fa : Option Addr) (fn fc : Nat) (m : Mn) (w : World) (hv : IsL IL w (.slice fa fn fc) m.l) (hB : MnB m) :
    Calls Try.prog 8 #[mnVal fa fn fc m] w fun e w' => e = .returned (putVal10 m) ∧ Below w.heap.size w w' := by
  by_cases h : Ok m
  · exact rput10_yes fa fn fc m w hv h
  · exact rput10_no fa fn fc m w hv hB h

end Go.Proofs.Ytcogeflljcefjaa.Mfs

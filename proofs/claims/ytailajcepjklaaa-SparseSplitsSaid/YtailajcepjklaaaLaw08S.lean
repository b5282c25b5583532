/-
  What SparseSplits answers: true, whatever it is given; nothing that was there is changed.
-/
import Derived.Test.YtailajcepjklaaaLaw08A
import Derived.Test.YtailajcepjklaaaMarkEq
namespace Go.Proofs.Ytailajcepjklaaa.Mks
open Go.RowKit Go.Proofs.Ytailajcepjklaaa.Mp

set_option maxRecDepth 100000 in
set_option maxHeartbeats 1600000 in
theorem splits_no (v : Value) (l : List Mk) (off : Int) (w : World) (hv : IsL ML w v l) (h : ¬ (l.length ≤ 300 ∧ Right l)) :
    Calls Try.prog 5 #[v, .int .i64 off] w fun e w' => e = .returned (.bool true) ∧ Below w.heap.size w w' := by
  obtain ⟨fa, fn, fc, rfl⟩ : ∃ a n c, v = .slice a n c := by obtain ⟨a, c, h, _⟩ := hv; exact ⟨a, _, c, h⟩
  have hfl := hv.len.1
  have hl := hv.len.2
  unfold maxLen at hl
  have AW := Lib.hid fun W : World => awake08 W
  by_cases h3 : 300 < fn
  · have i3 : (300 : Int) < (fn : Int) := by omega
    clear h hfl hl hv
    go_enter Try.func5, Try.ntmps5
    go_wp2_with fail
    refine (AW.out _).mono ?_
    rintro e w1 ⟨rfl, b1⟩
    go_wp2_with fail
    go_ret
    exact ⟨rfl, b1⟩
  · have i3 : decide ((300 : Int) < (fn : Int)) = false := by simp; omega
    have i4 : ¬ ((300 : Int) < (fn : Int)) := by omega
    have hR : ¬ Right l := fun hr => h ⟨by omega, hr⟩
    have RR := Lib.hid (rright08_any _ l false w hv ⟨(fun h => by cases h), (fun h => absurd h hR)⟩)
    clear h hfl hl hv hR h3
    go_enter Try.func5, Try.ntmps5
    go_wp2_with fail
    refine RR.out.mono ?_
    rintro e w0 ⟨rfl, n0, rfl⟩
    go_wp2_with fail
    refine (AW.out _).mono ?_
    rintro e w1 ⟨rfl, b1⟩
    go_wp2_with fail
    go_ret
    exact ⟨rfl, bel_trans2 (bel_drewN n0) b1⟩

set_option maxRecDepth 100000 in
set_option maxHeartbeats 3200000 in
theorem splits_yes (v : Value) (l : List Mk) (off : Int) (w : World) (hv : IsL ML w v l) (h3 : l.length ≤ 300) (hr : Right l) :
    Calls Try.prog 5 #[v, .int .i64 off] w fun e w' => e = .returned (.bool true) ∧ Below w.heap.size w w' := by
  obtain ⟨fa, fn, fc, rfl⟩ : ∃ a n c, v = .slice a n c := by obtain ⟨a, c, h, _⟩ := hv; exact ⟨a, _, c, h⟩
  have hfl := hv.len.1
  have HV := Lib.hid hv
  have AW := Lib.hid fun W : World => awake08 W
  obtain ⟨n, hn⟩ := split_some hr off
  have RR := Lib.hid (rright08_any _ l true w hv ⟨fun _ => hr, fun _ => rfl⟩)
  have F1 := fun W : World => fun h : IsL ML W (.slice fa fn fc) l => find08_any _ l off n W h hn
  obtain ⟨hn1, hn2, hn3⟩ := hn
  have HMO := Lib.hid fun i j (hij : i < j) (hj : j < l.length) => (hr.mono hij hj).1
  rw [← hfl] at h3 hn1 hn3 HMO
  have i4 : ¬ ((300 : Int) < (fn : Int)) := by omega
  have i3 : decide ((300 : Int) < (fn : Int)) = false := by simp; omega
  have HN2 := Lib.hid hn2
  have HN3 := Lib.hid hn3
  clear hv hr hfl hn2 hn3
  cases n with
  | zero =>
    unfold fndVal at F1
    dsimp only at F1
    replace F1 := Lib.hid F1
    go_enter Try.func5, Try.ntmps5
    go_wp2_with fail
    refine RR.out.mono ?_
    rintro e w0 ⟨rfl, n0, rfl⟩
    go_wp2_with fail
    refine (F1.out _ (HV.out.keep (bel_drewN n0))).mono ?_
    rintro e w1 ⟨rfl, b1⟩
    have B1 := Lib.hid (bel_trans2 (bel_drewN n0) b1)
    have G1 := Lib.hid (heap_alloc_new w1 (.cells #[.int .i64 0, .int .i64 0] 24))
    have B2 := Lib.hid (B1.out.alloc B1.out.size (.cells #[.int .i64 0, .int .i64 0] 24))
    clear b1
    go_wp2_with fail
    generalize w1.alloc _ = w2 at G1 B2 ⊢
    obtain ⟨tb, htb⟩ : ∃ tb, w1.heap.size = tb := ⟨_, rfl⟩
    rw [htb] at G1 ⊢
    clear htb
    obtain ⟨z0, z1⟩ : w2.cell? ⟨tb, 0, none⟩ = some (.int .i64 0) ∧ w2.cell? ⟨tb, 1, none⟩ = some (.int .i64 0) := ⟨by rw [cell_of_row _ _ 0 _ _ _ G1.out]; rfl, by rw [cell_of_row _ _ 1 _ _ _ G1.out]; rfl⟩
    go_loopw [7, 8] (fun s i wr => ∃ (k q : Nat) (b : Bool), k ≤ fn ∧ i = .int .i64 k ∧ s = .bool b ∧ wr = w2.drewN q) (fun _ i _ => fn - (intOf i).toNat)
    case atStart => exact ⟨0, 0, false, Nat.zero_le _, rfl, rfl, rfl⟩
    case round =>
      obtain ⟨k, q, b, hk, rfl, rfl, rfl⟩ := hrel
      by_cases hlt : k < fn
      · obtain ⟨g, o, rfl, c0, c1⟩ := mk_at (HV.out.keep B2.out) hlt
        have hgt := HN3.out k (Nat.zero_le _) hlt
        generalize l.getD k zero = f at *
        have e1 : decide (f.o ≤ off) = false := by simpa using hgt
        have hq := mk_eql
        go_wp2_with fail
        go_quiet (fail)
        go_wp2_with fail
        cases b
        all_goals
          go_quiet (fail)
          go_wp2_with fail
          go_roundw
          case rel => exact ⟨k + 1, _, _, by omega, by go_num, rfl, rfl⟩
          case measure => simp [intOf]; omega
      · go_wp2_with fail
        refine (AW.out _).mono ?_
        rintro e w5 ⟨rfl, b5⟩
        have B5 := Lib.hid (B2.out.trans ((bel_trans2 (bel_drewN q) b5).mono B2.out.size))
        have hb5 := bel_trans2 (bel_drewN q) b5
        obtain ⟨y0, y1⟩ : w5.cell? ⟨tb, 0, none⟩ = some (.int .i64 0) ∧ w5.cell? ⟨tb, 1, none⟩ = some (.int .i64 0) := ⟨(hb5.cell (p := ⟨tb, 0, none⟩) (block_lt_of_cell z0)).trans z0, (hb5.cell (p := ⟨tb, 1, none⟩) (block_lt_of_cell z1)).trans z1⟩
        clear b5 hb5 z0 z1
        go_wp2_with fail
        go_ret
        exact ⟨rfl, B5.out⟩
  | succ n =>
    unfold fndVal at F1
    dsimp only at F1
    have hmo := HN2.out n (Nat.lt_succ_self n)
    have HLE := Lib.hid (show ∀ k, k < n → (l.getD k zero).o < (l.getD n zero).o ∧ (l.getD k zero).o ≤ off from fun k hk => ⟨HMO.out k n hk (by omega), HN2.out k (by omega)⟩)
    obtain ⟨m, hm⟩ : ∃ m, l.getD n zero = m := ⟨_, rfl⟩
    rw [hm] at F1 hmo HLE
    have HM := Lib.hid hm
    replace F1 := Lib.hid F1
    clear hm HMO
    go_enter Try.func5, Try.ntmps5
    go_wp2_with fail
    refine RR.out.mono ?_
    rintro e w0 ⟨rfl, n0, rfl⟩
    go_wp2_with fail
    refine (F1.out _ (HV.out.keep (bel_drewN n0))).mono ?_
    rintro e w1 ⟨rfl, b1⟩
    have B1 := Lib.hid (bel_trans2 (bel_drewN n0) b1)
    have G1 := Lib.hid (heap_alloc_new w1 (.cells #[.int .i64 m.o, .int .i64 m.p] 24))
    have B2 := Lib.hid (B1.out.alloc B1.out.size (.cells #[.int .i64 m.o, .int .i64 m.p] 24))
    clear b1
    go_wp2_with fail
    generalize w1.alloc _ = w2 at G1 B2 ⊢
    obtain ⟨tb, htb⟩ : ∃ tb, w1.heap.size = tb := ⟨_, rfl⟩
    rw [htb] at G1 ⊢
    clear htb
    obtain ⟨z0, z1⟩ : w2.cell? ⟨tb, 0, none⟩ = some (.int .i64 m.o) ∧ w2.cell? ⟨tb, 1, none⟩ = some (.int .i64 m.p) := ⟨by rw [cell_of_row _ _ 0 _ _ _ G1.out]; rfl, by rw [cell_of_row _ _ 1 _ _ _ G1.out]; rfl⟩
    go_loopw [7, 8] (fun s i wr => ∃ (k q : Nat) (b : Bool), k ≤ fn ∧ i = .int .i64 k ∧ s = .bool b ∧ b = decide (n < k) ∧ wr = w2.drewN q) (fun _ i _ => fn - (intOf i).toNat)
    case atStart => exact ⟨0, 0, false, Nat.zero_le _, rfl, rfl, by simp, rfl⟩
    case round =>
      obtain ⟨k, q, b, hk, rfl, rfl, hb, rfl⟩ := hrel
      by_cases hlt : k < fn
      · obtain ⟨g, o, rfl, c0, c1⟩ := mk_at (HV.out.keep B2.out) hlt
        have hq := mk_eql
        rcases Nat.lt_trichotomy k n with hkn | hkn | hkn
        · obtain ⟨h1, h2⟩ := HLE.out k hkn
          obtain rfl : b = false := by rw [hb]; simp; omega
          have HB := Lib.hid (show false = decide (n < k + 1) by simp; omega)
          generalize l.getD k zero = f at *
          have e1 : decide (f.o ≤ off) = true := by simpa using h2
          have e2 : decide (m.o < f.o) = false := by simp; omega
          have e3 : (f.o == m.o) = false := by simp; omega
          clear hb hkn
          go_wp2_with fail
          go_quiet (fail)
          go_wp2_with fail
          go_quiet (fail)
          go_wp2_with fail
          go_roundw
          case rel => exact ⟨k + 1, _, false, by omega, by go_num, rfl, HB.out, rfl⟩
          case measure => simp [intOf]; omega
        · obtain rfl : b = false := by rw [hb]; simp; omega
          have HB := Lib.hid (show true = decide (n < k + 1) by simp; omega)
          rw [hkn, HM.out] at c0 c1
          have e1 : decide (m.o ≤ off) = true := by simpa using hmo
          have e2 : decide (m.o < m.o) = false := by simp
          clear hb
          have hkn1 : k ≤ n := by omega
          have hkn2 : n ≤ k := by omega
          rw [← hkn] at c0 c1
          clear hkn
          go_wp2_with fail
          go_quiet (fail)
          go_wp2_with fail
          go_quiet (fail)
          go_wp2_with fail
          go_roundw
          case rel => exact ⟨k + 1, _, true, by omega, by go_num, rfl, HB.out, rfl⟩
          case measure => simp [intOf]; omega
        · have h3 := HN3.out k (by omega) hlt
          obtain rfl : b = true := by rw [hb]; simp; omega
          have HB := Lib.hid (show true = decide (n < k + 1) by simp; omega)
          generalize l.getD k zero = f at *
          have e1 : decide (f.o ≤ off) = false := by simp; omega
          clear hb hkn
          go_wp2_with fail
          go_quiet (fail)
          go_wp2_with fail
          go_quiet (fail)
          go_wp2_with fail
          go_roundw
          case rel => exact ⟨k + 1, _, true, by omega, by go_num, rfl, HB.out, rfl⟩
          case measure => simp [intOf]; omega
      · obtain rfl : b = true := by rw [hb]; simp; omega
        have e1 : decide (m.o ≤ off) = true := by simpa using hmo
        clear hb
        go_wp2_with fail
        refine (AW.out _).mono ?_
        rintro e w5 ⟨rfl, b5⟩
        have B5 := Lib.hid (B2.out.trans ((bel_trans2 (bel_drewN q) b5).mono B2.out.size))
        have hb5 := bel_trans2 (bel_drewN q) b5
        obtain ⟨y0, y1⟩ : w5.cell? ⟨tb, 0, none⟩ = some (.int .i64 m.o) ∧ w5.cell? ⟨tb, 1, none⟩ = some (.int .i64 m.p) := ⟨(hb5.cell (p := ⟨tb, 0, none⟩) (block_lt_of_cell z0)).trans z0, (hb5.cell (p := ⟨tb, 1, none⟩) (block_lt_of_cell z1)).trans z1⟩
        clear b5 hb5 z0 z1
        go_wp2_with fail
        go_ret
        exact ⟨rfl, B5.out⟩

theorem splits_in (v : Value) (l : List Mk) (off : Int) (w : World) (hv : IsL ML w v l) :
    Calls Try.prog 5 #[v, .int .i64 off] w fun e w' => e = .returned (.bool true) ∧ Below w.heap.size w w' := by
  by_cases h : l.length ≤ 300 ∧ Right l
  · exact splits_yes v l off w hv h.1 h.2
  · exact splits_no v l off w hv h

end Go.Proofs.Ytailajcepjklaaa.Mks

/-
  Marks in memory; what the document's functions of layer 8 answer.
-/
import Derived.Test.YtailajcepjklaaaMarkPlain
import Derived.Test.YtailajcepjklaaaList
import Derived.BigQuiet
import Derived.IntWalk
import Derived.Lib.Strings
import Derived.Laws.StructEq
namespace Go.Proofs.Ytailajcepjklaaa.Mks
open Go.RowKit Go.Proofs.Ytailajcepjklaaa.Mp

def mkCells (m : Mk) : List Value := [.int .i64 m.o, .int .i64 m.p]
def mkVal (m : Mk) : Value := .agg #[.int .i64 m.o, .int .i64 m.p]
def MkB (m : Mk) : Prop := (-9223372036854775808 ≤ m.o ∧ m.o ≤ 9223372036854775807) ∧ (-9223372036854775808 ≤ m.p ∧ m.p ≤ 9223372036854775807)
/-- How marks lie in memory. -/
def ML : Lay Mk where
  enc := mkCells
  k := 2
  len := fun _ => rfl
  one := by intro f u hu; simp [mkCells] at hu; rcases hu with rfl | rfl <;> rfl
  pos := by decide
  T := 24
  ok := MkB
  z := zero
theorem info_mk : (Try.prog.info? 24).map (fun i => (i.zero, i.size, i.bytes)) = some (some (.agg #[.int .i64 0, .int .i64 0]), 2, 16) := by kernel_rfl
theorem mk_at {w : World} {fa : Option Addr} {fn fc : Nat} {l : List Mk} (h : IsL ML w (.slice fa fn fc) l) {i : Nat} (hi : i < fn) :
    ∃ b off, fa = some ⟨b, off, none⟩ ∧ w.cell? ⟨b, off + i * 2, none⟩ = some (.int .i64 (l.getD i zero).o) ∧ w.cell? ⟨b, off + i * 2 + 1, none⟩ = some (.int .i64 (l.getD i zero).p) := by
  have h' := h
  obtain ⟨a', cap', e, _, _, h3⟩ := h
  injection e with e1 e2 e3
  rcases h3 with h3 | ⟨b, off, h4, _⟩
  · rw [h3] at e2; simp at e2; omega
  · subst e1
    subst h4
    exact ⟨b, off, rfl, h'.at_ hi 0 _ rfl, h'.at_ hi 1 _ rfl⟩

theorem drewN_two (w : World) (a b : Nat) : (w.drewN a).drewN b = w.drewN (a + b) := by unfold World.drewN; simp [Nat.add_assoc]

set_option maxRecDepth 100000 in
set_option maxHeartbeats 3200000 in
theorem rright08_any (v : Value) (l : List Mk) (b : Bool) (w : World) (hv : IsL ML w v l) (hb : b = true ↔ Right l) :
    Calls Try.prog 7 #[v] w fun e w' => e = .returned (.bool b) ∧ ∃ n, w' = w.drewN n := by
  obtain ⟨fa, fn, fc, rfl⟩ : ∃ a n c, v = .slice a n c := by obtain ⟨a, c, h, _⟩ := hv; exact ⟨a, _, c, h⟩
  have HV := Lib.hid hv
  have hfl := hv.len.1
  have hl := hv.len.2
  unfold maxLen at hl
  have hl2 : l.length ≤ 9223372036854775807 := by omega
  clear hl
  have HRN := Lib.hid (show ∀ k, k < l.length → ¬ AtOk l k → b = false from fun k hk hn => by rw [← Bool.not_eq_true, hb]; exact fun hr => hn (hr k hk))
  have HRY := Lib.hid (show (∀ k, k < l.length → AtOk l k) → b = true from fun h => hb.2 h)
  rw [← hfl] at hl2 HRN HRY
  clear hv hb hfl
  go_enter Try.func7, Try.ntmps7
  go_wp2_with fail
  go_loopw [3] (fun i wr => ∃ k n : Nat, k ≤ fn ∧ i = .int .i64 k ∧ (∀ j, j < k → AtOk l j) ∧ wr = w.drewN n) (fun i _ => fn - (intOf i).toNat)
  case atStart => exact ⟨0, 0, Nat.zero_le _, rfl, fun j hj => absurd hj (Nat.not_lt_zero j), rfl⟩
  case round =>
    obtain ⟨k, n, hk, rfl, hall, rfl⟩ := hrel
    have HALL := Lib.hid hall
    clear hall
    by_cases hlt : k < fn
    · obtain ⟨g, off, rfl, c0, c1⟩ := mk_at HV.out hlt
      rcases at_cases l k with ⟨hno, hbad⟩ | ⟨hyes, i1, i2, hy⟩
      · have HBF := Lib.hid (HRN.out k hlt hno)
        clear hno
        rcases hbad with i1 | ⟨i1, i2⟩ | ⟨i1, i2, j, rfl, i3⟩ | ⟨i1, i2, j, rfl, i3, i4⟩
        · generalize l.getD k zero = f at *
          go_wp2_with fail
          go_quiet (fail)
          go_wp2_with fail
          go_ret
          exact ⟨by rw [HBF.out]; rfl, _, drewN_two _ _ _⟩
        · generalize l.getD k zero = f at *
          have e1 : decide (f.o < 0) = false := by simpa using i1
          go_wp2_with fail
          go_quiet (fail)
          go_wp2_with fail
          go_ret
          exact ⟨by rw [HBF.out]; rfl, _, drewN_two _ _ _⟩
        · skip
          obtain ⟨g', off', e, u0, u1⟩ := mk_at HV.out (show j < fn by omega)
          obtain ⟨rfl, rfl⟩ : g = g' ∧ off = off' := by simpa using e
          generalize l.getD (j + 1) zero = f at *
          generalize l.getD j zero = f' at *
          have e1 : decide (f.o < 0) = false := by simpa using i1
          have e2 : decide (f.p < 0) = false := by simpa using i2
          have e4 : decide (0 < j + 1) = true := by simp
          have hjn : j < fn := by omega
          have hwr : IntKind.i64.wrap (j : Int) = (j : Int) := IntWalk.i64_in _ ⟨by omega, by omega⟩
          clear e
          go_wp2_with fail
          go_quiet (fail)
          go_wp2_with fail
          go_ret
          exact ⟨by rw [HBF.out]; rfl, _, drewN_two _ _ _⟩
        · skip
          obtain ⟨g', off', e, u0, u1⟩ := mk_at HV.out (show j < fn by omega)
          obtain ⟨rfl, rfl⟩ : g = g' ∧ off = off' := by simpa using e
          generalize l.getD (j + 1) zero = f at *
          generalize l.getD j zero = f' at *
          have e1 : decide (f.o < 0) = false := by simpa using i1
          have e2 : decide (f.p < 0) = false := by simpa using i2
          have e4 : decide (0 < j + 1) = true := by simp
          have e3 : decide (f.o ≤ f'.o) = false := by simpa using i3
          have hjn : j < fn := by omega
          have hwr : IntKind.i64.wrap (j : Int) = (j : Int) := IntWalk.i64_in _ ⟨by omega, by omega⟩
          clear e
          go_wp2_with fail
          go_quiet (fail)
          go_wp2_with fail
          go_ret
          exact ⟨by rw [HBF.out]; rfl, _, drewN_two _ _ _⟩
      · have GY := Lib.hid (all_next HALL.out hyes)
        clear hyes
        rcases hy with rfl | ⟨j, rfl, i3, i4⟩
        · simp only [Nat.zero_mul, Nat.add_zero] at c0 c1
          generalize l.getD 0 zero = f at *
          have e1 : decide (f.o < 0) = false := by simpa using i1
          have e2 : decide (f.p < 0) = false := by simpa using i2
          go_wp2_with fail
          go_quiet (fail)
          go_wp2_with fail
          go_roundw
          case rel => exact ⟨_, _, by first | (clear hwr; omega) | omega, by go_num, GY.out, rfl⟩
          case measure => first | (clear hwr; simp [intOf]; omega) | (simp [intOf]; omega)
        · skip
          obtain ⟨g', off', e, u0, u1⟩ := mk_at HV.out (show j < fn by omega)
          obtain ⟨rfl, rfl⟩ : g = g' ∧ off = off' := by simpa using e
          generalize l.getD (j + 1) zero = f at *
          generalize l.getD j zero = f' at *
          have e1 : decide (f.o < 0) = false := by simpa using i1
          have e2 : decide (f.p < 0) = false := by simpa using i2
          have e4 : decide (0 < j + 1) = true := by simp
          have e3 : decide (f.o ≤ f'.o) = false := by simpa using i3
          have e5 : decide (f.p ≤ f'.p) = false := by simpa using i4
          have hjn : j < fn := by omega
          have hwr : IntKind.i64.wrap (j : Int) = (j : Int) := IntWalk.i64_in _ ⟨by omega, by omega⟩
          clear e
          go_wp2_with fail
          go_quiet (fail)
          go_wp2_with fail
          go_roundw
          case rel => exact ⟨_, _, by first | (clear hwr; omega) | omega, by go_num, GY.out, rfl⟩
          case measure => first | (clear hwr; simp [intOf]; omega) | (simp [intOf]; omega)
    · have HBF := Lib.hid (HRY.out (fun j hj => HALL.out j (by omega)))
      go_wp2_with fail
      go_ret
      exact ⟨by rw [HBF.out]; rfl, _, rfl⟩

set_option maxRecDepth 100000 in
set_option maxHeartbeats 3200000 in
theorem rsame08_yes (v1 v2 : Value) (l : List Mk) (w : World) (h1 : IsL ML w v1 l) (h2 : IsL ML w v2 l) :
    Calls Try.prog 9 #[v1, v2] w fun e w' => e = .returned (.bool true) ∧ ∃ n, w' = w.drewN n := by
  obtain ⟨fa, fn, fc, rfl⟩ : ∃ a n c, v1 = .slice a n c := by obtain ⟨a, c, h, _⟩ := h1; exact ⟨a, _, c, h⟩
  obtain ⟨ga, gn, gc, rfl⟩ : ∃ a n c, v2 = .slice a n c := by obtain ⟨a, c, h, _⟩ := h2; exact ⟨a, _, c, h⟩
  obtain rfl : gn = fn := by rw [h1.len.1, h2.len.1]
  have hl : gn ≤ 9223372036854775807 := by have := h1.len; unfold maxLen at this; omega
  have H1 := Lib.hid h1
  have H2 := Lib.hid h2
  clear h1 h2
  go_enter Try.func9, Try.ntmps9
  go_wp2_with fail
  go_loopw [5] (fun i wr => ∃ k n : Nat, k ≤ gn ∧ i = .int .i64 k ∧ wr = w.drewN n) (fun i _ => gn - (intOf i).toNat)
  case atStart => exact ⟨0, 0, Nat.zero_le _, rfl, rfl⟩
  case round =>
    obtain ⟨k, n, hk, rfl, rfl⟩ := hrel
    by_cases hlt : k < gn
    · obtain ⟨b, off, rfl, c0, c1⟩ := mk_at H1.out hlt
      obtain ⟨b', off', rfl, d0, d1⟩ := mk_at H2.out hlt
      generalize l.getD k zero = f at *
      go_wp2_with fail
      go_quiet (fail)
      go_wp2_with fail
      go_roundw
      case rel => exact ⟨k + 1, _, by omega, by go_num, rfl⟩
      case measure => simp [intOf]; omega
    · go_wp2_with fail
      go_ret
      exact ⟨rfl, _, rfl⟩

end Go.Proofs.Ytailajcepjklaaa.Mks

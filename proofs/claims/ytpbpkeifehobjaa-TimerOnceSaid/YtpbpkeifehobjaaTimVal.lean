/-
  Alarms in memory; what the document's Armed and Same of layer 18, and the statements' same, answer.
-/
import Derived.Test.YtpbpkeifehobjaaBoxs
import Derived.Test.YtpbpkeifehobjaaTimPlain
import Derived.BigQuiet
import Derived.Laws.StructEq
namespace Go.Proofs.Ytpbpkeifehobjaa.Tm
open Go.RowKit Go.Proofs.Ytpbpkeifehobjaa.Tp Go.Proofs.Ytpbpkeifehobjaa.Aps

def AlB (a : Al) : Prop := (-9223372036854775808 ≤ a.i ∧ a.i ≤ 9223372036854775807) ∧ (-9223372036854775808 ≤ a.t ∧ a.t ≤ 9223372036854775807)
/-- How alarms lie in memory. -/
def TL : Lay Al where
  enc := fun a => [.int .i64 a.i, .int .i64 a.t]
  k := 2
  len := fun _ => rfl
  one := by intro f u hu; simp at hu; rcases hu with rfl | rfl <;> rfl
  pos := by decide
  T := 44
  ok := fun _ => True
  z := azero
def NL : Lay Int where
  enc := fun a => [.int .i64 a]
  k := 1
  len := fun _ => rfl
  one := by intro f u hu; simp at hu; rw [hu]; rfl
  pos := by decide
  T := 3
  ok := fun _ => True
  z := 0
theorem ap_tl : Ap TL 24 := Ap.mk' (z := .agg #[.int .i64 0, .int .i64 0]) (bytes := 16) Try.underlying24 (by kernel_rfl) (by decide) rfl
theorem ap_nl : Ap NL 31 := Ap.mk' (z := .int .i64 0) (bytes := 8) Try.underlying31 (by kernel_rfl) (by decide) rfl
theorem tl_at {w : World} {a : Option Addr} {n cap : Nat} {l : List Al} (h : IsL TL w (.slice a n cap) l) {i : Nat} (hi : i < n) : ∃ b off, a = some ⟨b, off, none⟩ ∧ w.cell? ⟨b, off + i * 2, none⟩ = some (.int .i64 (l.getD i azero).i) ∧ w.cell? ⟨b, off + i * 2 + 1, none⟩ = some (.int .i64 (l.getD i azero).t) := by
  have h' := h
  obtain ⟨a', cap', e, _, _, h3⟩ := h
  injection e with e1 e2 e3
  rcases h3 with h3 | ⟨b, off, h4, _⟩
  · rw [h3] at e2; simp at e2; omega
  · subst e1
    subst h4
    exact ⟨b, off, rfl, h'.at_ hi 0 _ rfl, h'.at_ hi 1 _ rfl⟩
theorem nl_at {w : World} {a : Option Addr} {n cap : Nat} {l : List Int} (h : IsL NL w (.slice a n cap) l) {i : Nat} (hi : i < n) : ∃ b off, a = some ⟨b, off, none⟩ ∧ w.cell? ⟨b, off + i, none⟩ = some (.int .i64 (l.getD i 0)) := by
  have h' := h
  obtain ⟨a', cap', e, _, _, h3⟩ := h
  injection e with e1 e2 e3
  rcases h3 with h3 | ⟨b, off, h4, _⟩
  · rw [h3] at e2; simp at e2; omega
  · subst e1
    subst h4
    refine ⟨b, off, rfl, ?_⟩
    have := h'.at_ hi 0 _ rfl
    simpa [NL] using this

set_option maxRecDepth 100000 in
set_option maxHeartbeats 1600000 in
theorem rarmed18_any (now i : Int) (v : Value) (l : List Al) (w : World) (hv : IsL TL w v l) :
    Calls Try.prog 16 #[.agg #[.int .i64 now, v], .int .i64 i] w fun e w' => e = .returned (.bool (armed l i)) ∧ Below w.heap.size w w' := by
  obtain ⟨fa, fn, fc, rfl⟩ := isl_slice hv
  have hfl := hv.len.1
  have HJ := Lib.hid (show ∀ j, j < fn → (l.getD j azero).i = i → armed l i = true from fun j hj h => armed_iff.2 ⟨l.getD j azero, by rw [getD_lt (by omega)]; exact List.getElem_mem _, h⟩)
  have HY := Lib.hid (show (∀ j, j < fn → (l.getD j azero).i ≠ i) → armed l i = false from fun k => by
    rw [← Bool.not_eq_true, armed_iff]
    rintro ⟨b, hb, e⟩
    obtain ⟨j, hj, rfl⟩ := List.getElem_of_mem hb
    have := k j (by omega)
    rw [getD_lt hj] at this
    exact this e)
  have BX := Lib.hid ((Bs.start w).new #[.int .i64 now, .slice fa fn fc] 26)
  have HV := Lib.hid (hv.keep BX.out.w)
  have hl2 : fn ≤ 9223372036854775807 := by have := hv.len.2; unfold maxLen at this; omega
  generalize armed l i = R at *
  clear hv hfl
  go_enter Try.func16, Try.ntmps16
  go_wp2_with fail
  obtain ⟨x0, x1⟩ := BX.out.at2 (.head _)
  generalize World.alloc w _ = w0 at x0 x1 BX HV ⊢
  go_loop [5] (fun i' => ∃ k : Nat, k ≤ fn ∧ i' = .int .i64 k ∧ ∀ j, j < k → (l.getD j azero).i ≠ i) (fun i => fn - (intOf i).toNat)
  case atStart => exact ⟨0, Nat.zero_le _, rfl, fun j hj => absurd hj (Nat.not_lt_zero j)⟩
  case round =>
    obtain ⟨k, hk, rfl, hall⟩ := hrel
    have HALL := Lib.hid hall
    clear hall
    by_cases hlt : k < fn
    · obtain ⟨g, off, rfl, c0, c1⟩ := tl_at HV.out hlt
      have HE := Lib.hid (HJ.out k hlt)
      have HN := Lib.hid (show (l.getD k azero).i ≠ i → ∀ j, j < k + 1 → (l.getD j azero).i ≠ i from fun h j hj => by rcases Nat.lt_succ_iff_lt_or_eq.1 hj with h' | h'; exact HALL.out j h'; subst h'; exact h)
      generalize l.getD k azero = q at c0 c1 HE HN
      by_cases hi : q.i = i
      · have HR := Lib.hid (HE.out hi)
        go_wp2_with fail
        go_ret
        exact ⟨by rw [HR.out]; rfl, BX.out.w⟩
      · have HN2 := Lib.hid (HN.out hi)
        go_wp2_with fail
        go_round
        case rel => exact ⟨k + 1, by omega, by go_num, HN2.out⟩
        case measure => simp [intOf]; omega
    · obtain rfl : k = fn := by omega
      have HR := Lib.hid (HY.out HALL.out)
      go_wp2_with fail
      go_ret
      exact ⟨by rw [HR.out]; rfl, BX.out.w⟩

end Go.Proofs.Ytpbpkeifehobjaa.Tm

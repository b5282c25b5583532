/-
  Segments in memory; what the document's functions of layer 11 answer.
-/
import Derived.Test.YtmbkgcmmajnidaaRetPlain
import Derived.Test.YtmbkgcmmajnidaaList
import Derived.BigQuiet
import Derived.IntWalk
namespace Go.Proofs.Ytmbkgcmmajnidaa.Rts
open Go.RowKit Go.Proofs.Ytmbkgcmmajnidaa.Rt

def sgCells (m : Sg) : List Value := [.int .i64 m.b, .int .i64 m.n, .int .i64 m.z]
def SgB (m : Sg) : Prop := (-9223372036854775808 ≤ m.b ∧ m.b ≤ 9223372036854775807) ∧ (-9223372036854775808 ≤ m.n ∧ m.n ≤ 9223372036854775807) ∧ (-9223372036854775808 ≤ m.z ∧ m.z ≤ 9223372036854775807)
/-- How segments lie in memory. -/
def SL : Lay Sg where
  enc := sgCells
  k := 3
  len := fun _ => rfl
  one := by intro f u hu; simp [sgCells] at hu; rcases hu with rfl | rfl | rfl <;> rfl
  pos := by decide
  T := 29
  ok := SgB
  z := zero
theorem info_sg : (Try.prog.info? 29).map (fun i => (i.zero, i.size, i.bytes)) = some (some (.agg #[.int .i64 0, .int .i64 0, .int .i64 0]), 3, 24) := by kernel_rfl
theorem sg_at {w : World} {fa : Option Addr} {fn fc : Nat} {l : List Sg} (h : IsL SL w (.slice fa fn fc) l) {i : Nat} (hi : i < fn) :
    ∃ b off, fa = some ⟨b, off, none⟩ ∧ w.cell? ⟨b, off + i * 3, none⟩ = some (.int .i64 (l.getD i zero).b) ∧ w.cell? ⟨b, off + i * 3 + 1, none⟩ = some (.int .i64 (l.getD i zero).n) ∧ w.cell? ⟨b, off + i * 3 + 2, none⟩ = some (.int .i64 (l.getD i zero).z) := by
  have h' := h
  obtain ⟨a', cap', e, _, _, h3⟩ := h
  injection e with e1 e2 e3
  rcases h3 with h3 | ⟨b, off, h4, _⟩
  · rw [h3] at e2; simp at e2; omega
  · subst e1
    subst h4
    exact ⟨b, off, rfl, h'.at_ hi 0 _ rfl, h'.at_ hi 1 _ rfl, h'.at_ hi 2 _ rfl⟩

set_option maxRecDepth 100000 in
set_option maxHeartbeats 800000 in
theorem rbytes11_any (v : Value) (l : List Sg) (w : World) (hv : IsL SL w v l) (hm : May l) :
    Calls Try.prog 11 #[v] w fun e w' => e = .returned (.int .i64 (sumZ l)) ∧ w = w' := by
  obtain ⟨fa, fn, fc, rfl⟩ : ∃ a n c, v = .slice a n c := by obtain ⟨a, c, h, _⟩ := hv; exact ⟨a, _, c, h⟩
  have HV := Lib.hid hv
  have HM := Lib.hid hm
  have HL := Lib.hid hv.len.1
  have hl4 : fn ≤ 4096 := by rw [hv.len.1]; exact hm.1
  clear hv hm
  go_enter Try.func11, Try.ntmps11
  go_wp2_with fail
  go_loop [3, 4] (fun n i => ∃ k : Nat, k ≤ fn ∧ n = .int .i64 (sumZ (l.take k)) ∧ i = .int .i64 k) (fun _ i => fn - (intOf i).toNat)
  case atStart => exact ⟨0, Nat.zero_le _, rfl, rfl⟩
  case round =>
    obtain ⟨k, hk, rfl, rfl⟩ := hrel
    by_cases hlt : k < fn
    · obtain ⟨g, off, rfl, c0, c1, c2⟩ := sg_at HV.out hlt
      have HS := Lib.hid (sumZ_take (l := l) (k := k) (by rw [← HL.out]; exact hlt))
      obtain ⟨s1, s2, _, _⟩ := (HM.out.take k).sums
      obtain ⟨_, _, s3, s4⟩ := HM.out.at_ k
      generalize sumZ (l.take k) = S at *
      generalize l.getD k zero = f at *
      go_wp2_with fail
      go_round
      case rel => exact ⟨k + 1, by omega, by rw [HS.out], by go_num⟩
      case measure => simp [intOf]; omega
    · obtain rfl : k = fn := by omega
      have HE := Lib.hid (show sumZ (l.take k) = sumZ l by rw [HL.out, List.take_length])
      go_wp2_with fail
      go_ret
      exact ⟨by rw [HE.out]; rfl, rfl⟩

set_option maxRecDepth 100000 in
set_option maxHeartbeats 800000 in
theorem rrecords11_any (v : Value) (l : List Sg) (w : World) (hv : IsL SL w v l) (hm : May l) :
    Calls Try.prog 15 #[v] w fun e w' => e = .returned (.int .i64 (sumN l)) ∧ w = w' := by
  obtain ⟨fa, fn, fc, rfl⟩ : ∃ a n c, v = .slice a n c := by obtain ⟨a, c, h, _⟩ := hv; exact ⟨a, _, c, h⟩
  have HV := Lib.hid hv
  have HM := Lib.hid hm
  have HL := Lib.hid hv.len.1
  have hl4 : fn ≤ 4096 := by rw [hv.len.1]; exact hm.1
  clear hv hm
  go_enter Try.func15, Try.ntmps15
  go_wp2_with fail
  go_loop [3, 4] (fun n i => ∃ k : Nat, k ≤ fn ∧ n = .int .i64 (sumN (l.take k)) ∧ i = .int .i64 k) (fun _ i => fn - (intOf i).toNat)
  case atStart => exact ⟨0, Nat.zero_le _, rfl, rfl⟩
  case round =>
    obtain ⟨k, hk, rfl, rfl⟩ := hrel
    by_cases hlt : k < fn
    · obtain ⟨g, off, rfl, c0, c1, c2⟩ := sg_at HV.out hlt
      have HS := Lib.hid (sumN_take (l := l) (k := k) (by rw [← HL.out]; exact hlt))
      obtain ⟨_, _, s1, s2⟩ := (HM.out.take k).sums
      obtain ⟨s3, s4, _, _⟩ := HM.out.at_ k
      generalize sumN (l.take k) = S at *
      generalize l.getD k zero = f at *
      go_wp2_with fail
      go_round
      case rel => exact ⟨k + 1, by omega, by rw [HS.out], by go_num⟩
      case measure => simp [intOf]; omega
    · obtain rfl : k = fn := by omega
      have HE := Lib.hid (show sumN (l.take k) = sumN l by rw [HL.out, List.take_length])
      go_wp2_with fail
      go_ret
      exact ⟨by rw [HE.out]; rfl, rfl⟩

set_option maxRecDepth 100000 in
set_option maxHeartbeats 800000 in
theorem rmuch11_any (fa : Option Addr) (fn fc : Nat) (l : List Sg) (keep count : Int) (b : Bool) (w : World) (hv : IsL SL w (.slice fa fn fc) l) (hc : fn ≤ fc) (hm : May l) (hb : b = true ↔ Much l keep count) :
    Calls Try.prog 14 #[.slice fa fn fc, .int .i64 keep, .int .i64 count] w fun e w' => e = .returned (.bool b) ∧ w = w' := by
  have hl4 : fn ≤ 4096 := by rw [hv.len.1]; exact hm.1
  have hfl := hv.len.1
  by_cases h1 : 1 < fn
  · have BY := Lib.hid (rbytes11_any (.slice fa (fn - 1) fc) (l.take (fn - 1)) w (hv.take (Nat.sub_le _ _)) (hm.take _))
    have RE := Lib.hid (rrecords11_any (.slice fa fn fc) l w hv hm)
    have hb2 : b = true ↔ (keep < sumZ (l.take (fn - 1)) ∨ count < sumN l) := by
      rw [hb]
      unfold Much
      rw [← hfl]
      exact ⟨fun h => h.2, fun h => ⟨h1, h⟩⟩
    have hsub : (fn : Int) - 1 = ((fn - 1 : Nat) : Int) := by omega
    generalize sumZ (l.take (fn - 1)) = S at *
    generalize sumN l = N at *
    obtain ⟨m, hmm⟩ : ∃ m, fn - 1 = m := ⟨_, rfl⟩
    rw [hmm] at BY hsub
    have hmf : m ≤ fc := by omega
    have hmf2 : m ≤ fn := by omega
    clear hb hv hm hfl hmm
    by_cases h2 : keep < S
    · have e2 : decide (keep < S) = true := by simpa using h2
      obtain rfl : b = true := hb2.2 (.inl h2)
      clear hb2
      go_enter Try.func14, Try.ntmps14
      go_wp2_with fail
      refine BY.out.mono ?_
      rintro e w1 ⟨rfl, rfl⟩
      go_wp2_with fail
      go_ret
      exact ⟨rfl, rfl⟩
    · have e2 : decide (keep < S) = false := by simpa using h2
      have e3 : decide (count < N) = b := by
        rw [Bool.eq_iff_iff, decide_eq_true_iff, hb2]
        exact ⟨.inr, fun h => h.resolve_left h2⟩
      clear hb2
      go_enter Try.func14, Try.ntmps14
      go_wp2_with fail
      refine BY.out.mono ?_
      rintro e w1 ⟨rfl, rfl⟩
      go_wp2_with fail
      refine RE.out.mono ?_
      rintro e w2 ⟨rfl, rfl⟩
      go_wp2_with fail
      go_ret
      exact ⟨rfl, rfl⟩
  · obtain rfl : b = false := by
      rw [← Bool.not_eq_true, hb]
      exact fun h => h1 (by rw [hfl]; exact h.1)
    have e1 : decide ((1 : Int) < (fn : Int)) = false := by simp; omega
    clear hb hv hm hfl
    go_enter Try.func14, Try.ntmps14
    go_wp2_with fail
    go_ret
    exact ⟨rfl, rfl⟩

set_option maxRecDepth 100000 in
set_option maxHeartbeats 800000 in
theorem rpick11_any (fa : Option Addr) (fn fc : Nat) (l : List Sg) (keep count : Int) (p : Nat) (w : World) (hv : IsL SL w (.slice fa fn fc) l) (hc : fn ≤ fc) (hm : May l) (hp : IsPick l keep count p) :
    Calls Try.prog 9 #[.slice fa fn fc, .int .i64 keep, .int .i64 count] w fun e w' => e = .returned (.int .i64 (p : Int)) ∧ w = w' := by
  have hl4 : fn ≤ 4096 := by rw [hv.len.1]; exact hm.1
  have hfl := hv.len.1
  have HV := Lib.hid hv
  have HM := Lib.hid hm
  have hpl := hp.lt
  rw [← hfl] at hpl
  have HP := Lib.hid (show (0 < fn → (∀ b : Bool, (b = true ↔ Much (l.drop p) keep count) → b = false) ∧ ∀ j, j < p → ∀ b : Bool, (b = true ↔ Much (l.drop j) keep count) → b = true) from fun h0 => by
    rcases hp with ⟨rfl, rfl⟩ | ⟨_, a2, a3⟩
    · simp at hfl; omega
    · exact ⟨fun b hb => by rw [← Bool.not_eq_true, hb]; exact a2, fun j hj b hb => hb.2 (a3 j hj)⟩)
  have MU := Lib.hid fun (b g : Nat) (o : Nat) (k : Nat) (x : Bool) (hk : k < fn) (ha : fa = some ⟨g, o, none⟩) (hx : x = true ↔ Much (l.drop k) keep count) => rmuch11_any (some ⟨g, o + k * 3, none⟩) (fn - k) (fc - k) (l.drop k) keep count x w (by
    subst ha
    exact HV.out.drop (Nat.le_of_lt hk) _ (.inl rfl)) (by omega) (hm.drop k) hx
  obtain ⟨hp1, hp2⟩ := hpl
  clear hv hm hp hfl
  go_enter Try.func9, Try.ntmps9
  go_wp2_with fail
  go_loop [7] (fun i => ∃ k : Nat, k ≤ p ∧ i = .int .i64 k) (fun i => fn - (intOf i).toNat)
  case atStart => exact ⟨0, Nat.zero_le _, rfl⟩
  case round =>
    obtain ⟨k, hk, rfl⟩ := hrel
    by_cases h0 : 0 < fn
    · have hlt : k < fn := by have := hp2 h0; omega
      have hkc : k ≤ fc := by omega
      obtain ⟨g, o, rfl, _⟩ := sg_at HV.out hlt
      obtain ⟨x, hx⟩ : ∃ x : Bool, x = true ↔ Much (l.drop k) keep count := by
        classical exact ⟨decide (Much (l.drop k) keep count), decide_eq_true_iff⟩
      have MK := Lib.hid (MU.out 0 g o k x hlt rfl hx)
      by_cases hkp : k = p
      · subst hkp
        obtain rfl := (HP.out h0).1 x hx
        clear hx
        go_wp2_with fail
        refine MK.out.mono ?_
        rintro e w1 ⟨rfl, rfl⟩
        go_wp2_with fail
        go_ret
        exact ⟨rfl, rfl⟩
      · obtain rfl := (HP.out h0).2 k (by omega) x hx
        clear hx
        go_wp2_with fail
        refine MK.out.mono ?_
        rintro e w1 ⟨rfl, rfl⟩
        go_wp2_with fail
        go_round
        case rel => exact ⟨k + 1, by omega, by go_num⟩
        case measure => simp [intOf]; omega
    · obtain rfl : fn = 0 := by omega
      obtain rfl : p = 0 := by omega
      obtain rfl : k = 0 := by omega
      go_wp2_with fail
      go_ret
      exact ⟨rfl, rfl⟩

end Go.Proofs.Ytmbkgcmmajnidaa.Rts

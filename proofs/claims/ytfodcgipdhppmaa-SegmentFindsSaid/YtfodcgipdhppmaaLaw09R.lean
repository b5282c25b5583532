/-
  What the statements' row of layer 9 answers.
-/
import Derived.Test.YtfodcgipdhppmaaSegRow
import Derived.Test.YtfodcgipdhppmaaSegRef
import Derived.Test.YtfodcgipdhppmaaRecRow
namespace Go.Proofs.Ytfodcgipdhppmaa
open Go.RowKit Go.Proofs.Ytfodcgipdhppmaa.Gp

/-- What row answers: the bytes of the records of these data, and where each ends; or that there is none. -/
def Row9 (w : World) (b : Int) (ss : List ByteArray) (e : Ending) (w' : World) : Prop :=
  (Fits ss ∧ ∃ v, e = .returned (.tuple #[.string ⟨(Rp.rowB (recF b ss ss.length)).toArray⟩, v, .bool true]) ∧ IsL NL w' v (ends b ss ss.length) ∧ Below w.heap.size w w') ∨
  (¬ Fits ss ∧ e = .returned (.tuple #[.string ⟨#[]⟩, .slice none 0 0, .bool false]) ∧ Below w.heap.size w w')
theorem Row9.yes {w w' : World} {b : Int} {ss : List ByteArray} {v : Value} (h : Fits ss) (hv : IsL NL w' v (ends b ss ss.length)) (hb : Below w.heap.size w w') :
    Row9 w b ss (.returned (.tuple #[.string ⟨(Rp.rowB (recF b ss ss.length)).toArray⟩, v, .bool true])) w' := .inl ⟨h, v, rfl, hv, hb⟩
theorem Row9.no {w w' : World} {b : Int} {ss : List ByteArray} (h : ¬ Fits ss) (hb : Below w.heap.size w w') :
    Row9 w b ss (.returned (.tuple #[.string ⟨#[]⟩, .slice none 0 0, .bool false])) w' := .inr ⟨h, rfl, hb⟩
theorem endF_le {b : Int} (h0 : 0 ≤ b) (h1 : b ≤ 65535) {ss : List ByteArray} {n : Nat} (hn : n ≤ 1000) (hs : ∀ i, i < n → (ss.getD i ByteArray.empty).size ≤ 64) : endF b ss n ≤ 81 * n := by
  have := Rp.rowB_le (recF b ss n) (recF_ok h0 h1 hn hs)
  rwa [recF_len] at this
theorem str_at {w : World} {fa : Option Addr} {fn fc : Nat} {ss : List ByteArray} (h : IsStrs w (.slice fa fn fc) ss) {i : Nat} (hi : i < fn) :
    fn = ss.length ∧ ∃ b off, fa = some ⟨b, off, none⟩ ∧ w.cell? ⟨b, off + i, none⟩ = some (.string (ss.getD i ByteArray.empty)) := by
  obtain ⟨a', cap', e, _, _, h3⟩ := h
  injection e with e1 e2 e3
  refine ⟨e2, ?_⟩
  rcases h3 with h3 | ⟨b, off, h4, h5⟩
  · rw [h3] at e2; simp at e2; omega
  · subst e1
    subst h4
    exact ⟨b, off, rfl, h5 i (by omega)⟩
theorem strsV_len {w : World} {fa : Option Addr} {fn fc : Nat} {ss : List ByteArray} (h : IsStrs w (.slice fa fn fc) ss) : fn = ss.length ∧ ss.length ≤ maxLen ∧ ∀ s ∈ ss, s.size ≤ maxLen := by
  obtain ⟨a', cap', e, h1, h2, _⟩ := h
  injection e with e1 e2 e3
  exact ⟨e2, h1, h2⟩

set_option maxRecDepth 100000 in
set_option maxHeartbeats 3200000 in
theorem row9_any (v : Value) (ss : List ByteArray) (base : Int) (w : World) (hv : IsStrs w v ss) (hb0 : 0 ≤ base) (hb1 : base ≤ 65535) :
    Calls Try.prog 16 #[.int .i64 base, v] w (Row9 w base ss) := by
  obtain ⟨fa, fn, fc, rfl⟩ : ∃ a n c, v = .slice a n c := by obtain ⟨a, c, h, _⟩ := hv; exact ⟨a, _, c, h⟩
  obtain ⟨hfl, hml, hsm⟩ := strsV_len hv
  have HV := Lib.hid hv
  have HSM := Lib.hid hsm
  obtain ⟨i0, hi, hz0, hz1, hz2⟩ := info_parts info_int
  clear hv hsm
  by_cases hl : 20 < fn
  · have hl' : (20 : Int) < (fn : Int) := by omega
    have HF := Lib.hid (Row9.no (w := w) (b := base) (show ¬ Fits ss from fun h => by have := h.1; omega) (Below.refl _ w))
    clear hfl hml
    go_enter Try.func16, Try.ntmps16
    go_wp2_with fail
    go_ret3
    exact HF.out
  · have hl' : ¬ ((20 : Int) < (fn : Int)) := by omega
    have hl2 : decide ((20 : Int) < (fn : Int)) = false := by simp; omega
    have HFL := Lib.hid hfl
    clear hfl hml
    go_enter Try.func16, Try.ntmps16
    go_wp2_with fail
    go_loopw [7, 8, 9] (fun s v i wr => ∃ (k : Nat) (R : List UInt8), k ≤ fn ∧ i = .int .i64 k ∧ s = .string ⟨R.toArray⟩ ∧ R = Rp.rowB (recF base ss k) ∧ R.length ≤ 81 * k ∧ wr.ownsRow w.heap.size 3 1 v (k + 1) (NL.vals (ends base ss k)) ∧ (∀ j, j < k → (ss.getD j ByteArray.empty).size ≤ 64) ∧ Below w.heap.size w wr)
      (fun _ _ i _ => fn - (intOf i).toNat)
    case atStart =>
      refine ⟨0, [], Nat.zero_le _, rfl, rfl, rfl, by simp, ?_, fun j hj => absurd hj (Nat.not_lt_zero j), (Below.refl _ _).alloc (Nat.le_refl _) _⟩
      exact World.ownsRow_lit w #[.int .i64 0] 1 (Nat.le_refl _) (by decide) rfl
    case round =>
      obtain ⟨k, R, hk, rfl, rfl, hR, hRl, hown, hok, hb⟩ := hrel
      have HR := Lib.hid hR
      have HO := Lib.hid hok
      have HB := Lib.hid hb
      have HW := Lib.hid hown
      have hsz := hb.size
      clear hR hok
      by_cases hlt : k < fn
      · obtain ⟨hfe, g, off, rfl, c0⟩ := str_at (HV.out.below hb (Nat.le_refl _)) hlt
        clear hfe
        have hmem := HSM.out _ (getD_mem (show k < ss.length by rw [← HFL.out]; exact hlt))
        have HRC := Lib.hid (show recVal (rc base ss k) = .agg #[.int .i64 (base + (k : Int)), .int .i64 (k : Int), .string (ss.getD k ByteArray.empty)] from rfl)
        unfold maxLen at hmem
        have P := fun W : World => rrecput_any (rc base ss k) W hmem
        by_cases h64 : 64 < (ss.getD k ByteArray.empty).size
        · have hno : ¬ Fits ss := fun h => by
            have := h.2 _ (getD_mem (show k < ss.length by rw [← HFL.out]; exact hlt))
            omega
          have HNO := Lib.hid fun (W : World) => Row9.no (w := w) (w' := W) (b := base) hno
          rcases putVal_cases (rc base ss k) with ⟨h1, _⟩ | ⟨_, er, h3, _, h2⟩
          · exact absurd h1 (rc_bad h64)
          · rw [h2, HRC.out] at P
            replace P := Lib.hid P
            clear h2 hno hown hb
            generalize ss.getD k ByteArray.empty = s at *
            have her : (er != 0) = true := by rcases h3 with rfl | rfl <;> rfl
            clear h64 h3
            go_wp2_with fail
            refine (P.out _).mono ?_
            rintro e w1 ⟨rfl, b1⟩
            have HF := Lib.hid (HNO.out _ (HB.out.trans (b1.mono HB.out.size)))
            clear b1
            go_wp2_with fail
            go_ret3
            exact HF.out
        · have hrk := rc_ok hb0 hb1 (ss := ss) (i := k) (by omega) (by omega)
          rcases putVal_cases (rc base ss k) with ⟨_, h2⟩ | ⟨h1, _⟩
          · rw [h2, HRC.out] at P
            replace P := Lib.hid P
            have HRS := Lib.hid (row_succ base ss k)
            have HES := Lib.hid (ends_succ base ss k)
            have HEK := Lib.hid (show endF base ss (k + 1) = R.length + (Fr.fr (Rp.body (rc base ss k))).length from by rw [endF_succ, HR.out]; rfl)
            have hfle : (Fr.fr (Rp.body (rc base ss k))).length ≤ 81 := by rw [Rp.fr_le hrk]; have := Rp.body_le hrk; omega
            have HOK := Lib.hid (show ∀ j, j < k + 1 → (ss.getD j ByteArray.empty).size ≤ 64 from fun j hj => by
              by_cases e : j = k
              · subst e; omega
              · exact HO.out j (by omega))
            clear h2 hrk hown hb h64
            generalize Fr.fr (Rp.body (rc base ss k)) = f at *
            generalize ss.getD k ByteArray.empty = s at *
            go_wp2_with fail
            refine (P.out _).mono ?_
            rintro e w1 ⟨rfl, b1⟩
            have HB1 := Lib.hid (HB.out.trans (b1.mono HB.out.size))
            have HW1 := Lib.hid (own_below HW.out b1)
            have hs1 := HB1.out.size
            clear b1
            go_wp2_with (at_builtin; refine wpList_append_own _ rfl _ _ 42 rfl w.heap.size 3 i0 (.int .i64 0) 1 8 Try.underlying42 hi hz0 hz1 hz2 rfl (by decide) _ _ _ rfl (HW1.out.alloc _) ⟨w1.heap.size, 0, none⟩ 1 1 [.int .i64 ((R.length : Int) + (f.length : Int))] rfl rfl (news_new w1 _ _ _ rfl) (fun x hx => by simp at hx; subst hx; rfl) (by unfold maxLen; omega) (by omega) (by simp; omega) ?_; intro v' w3 hown' hgrow3 hnil3)
            go_roundw
            case rel =>
              refine ⟨k + 1, R ++ f, by omega, by go_num, congrArg Value.string (ByteArray.mk_append_mk R f), by rw [HRS.out, ← HR.out], by rw [List.length_append]; omega, ?_, HOK.out, (HB1.out.alloc HB1.out.size _).grown hgrow3 (by simp; omega) (fun p hp => (HW1.out.lt p hp).1)⟩
              rw [HES.out, NL.vals_append, NL.vals_one, HEK.out]
              exact hown'
            case measure => simp [intOf]; omega
          · exact absurd hrk h1
      · obtain rfl : k = fn := by omega
        have HFI : Hid (Fits ss) := Lib.hid ⟨by rw [← HFL.out]; omega, fits_at fun i hi => HO.out i (by rw [HFL.out]; exact hi)⟩
        have HN := Lib.hid (show IsL NL wr u8 (ends base ss ss.length) by
          rw [← HFL.out]
          have h3 : OwnL NL wr w.heap.size u8 (ends base ss k) := by
            unfold OwnL
            rw [ends_len]
            exact hown
          refine h3.is (by rw [ends_len]; unfold maxLen; omega) fun n hn => ?_
          unfold ends at hn
          rw [List.mem_map] at hn
          obtain ⟨j, hj, rfl⟩ := hn
          rw [List.mem_range] at hj
          have := endF_le hb0 hb1 (ss := ss) (n := j) (by omega) fun i hi => HO.out i (by omega)
          show _ ≤ 9223372036854775807
          omega)
        have HYES := Lib.hid (Row9.yes HFI.out HN.out hb)
        rw [← HFL.out, ← HR.out] at HYES
        clear hown hb
        go_wp2_with fail
        go_ret3
        exact HYES.out

end Go.Proofs.Ytfodcgipdhppmaa

/-
  What FoldBack answers: true, whatever it is given; nothing that was there is changed.
-/
import Derived.Test.YtndfpbolneofmaaLaw05T
import Derived.Test.YtndfpbolneofmaaRecFew
import Derived.Test.YtndfpbolneofmaaFoldParse
namespace Go.Proofs.Ytndfpbolneofmaa
open Go.RowKit

/-- The records' data. -/
def datas (rs : List Rp.Rec) : List ByteArray := rs.map (·.d)
theorem datas_app (rs : List Rp.Rec) (k : Nat) : datas rs = datas (rs.take k) ++ datas (rs.drop k) := by
  unfold datas
  rw [← List.map_append, List.take_append_drop]
theorem st_few {l : List Fp.Pr} (h : Fp.St l) : fewP l = true :=
  fewP_yes (by have := h.2.len; omega) (fun i hi => by have := (st_val h hi).2; omega)
theorem st_big {l : List Fp.Pr} (h : Fp.St l) : ∀ p ∈ l, p.v.size ≤ 9223372036854775807 := fun p hp => by have := (h.1 p hp).2; omega
theorem datas_small {rs : List Rp.Rec} (h : ∀ r ∈ rs, r.d.size ≤ 64) : ∀ s ∈ datas rs, s.size ≤ 64 := by
  intro s hs
  unfold datas at hs
  rw [List.mem_map] at hs
  obtain ⟨r, hr, rfl⟩ := hs
  exact h r hr
theorem bytes_len {l : List Fp.Pr} (h : Fp.St l) : (Fp.bytes l).length ≤ 1000000 := by
  have h1 := h.2.len
  have h2 := Fp.flat_len l 63 (fun p hp => (h.1 p hp).2)
  have h3 := Vp.put_len_le l.length
  unfold Fp.bytes
  rw [List.length_append]
  omega

set_option maxRecDepth 100000 in
set_option maxHeartbeats 800000 in
theorem back5_many (v : Value) (rs : List Rp.Rec) (m : Nat) (w : World) (hi : IsRecs w v rs) (h : fewB rs 60 = false) :
    Calls Try.prog 5 #[v, .int .u8 (m : Int)] w fun e w' => e = .returned (.bool true) ∧ Below w.heap.size w w' := by
  have C := few_any v rs 60 w (by omega) hi
  rw [h] at C
  have C := Lib.hid C
  obtain ⟨a, cap, rfl, _, _, _⟩ := hi
  generalize rs.length = len at *
  clear h
  go_enter Try.func5, Try.ntmps5
  go_wp2_with fail
  refine C.out.mono ?_
  rintro e w1 ⟨rfl, rfl⟩
  go_wp2_with fail
  refine (awake05 _).mono ?_
  rintro e w3 ⟨rfl, hbel⟩
  go_wp2_with fail
  go_ret
  exact ⟨rfl, hbel⟩

/-- The records, the first ones and the others, wherever slices of them end. -/
def Parts (rs : List Rp.Rec) (b off n k : Nat) (w : World) : Prop :=
  (∀ c, IsRecs w (.slice (some ⟨b, off, none⟩) n c) rs) ∧ (∀ c, IsRecs w (.slice (some ⟨b, off, none⟩) k c) (rs.take k)) ∧ (∀ a c, a = some ⟨b, off + k * 3, none⟩ ∨ n = k → IsRecs w (.slice a (n - k) c) (rs.drop k))
theorem IsRecs.cap {w : World} {a : Option Addr} {n c : Nat} {rs : List Rp.Rec} (h : IsRecs w (.slice a n c) rs) (c' : Nat) : IsRecs w (.slice a n c') rs := by
  obtain ⟨a', cap', e, h1⟩ := h
  injection e with e1 e2 e3
  subst e1 e2 e3
  exact ⟨a, c', rfl, h1⟩
theorem parts_of {rs : List Rp.Rec} {b off n k cap : Nat} {w : World} (h : IsRecs w (.slice (some ⟨b, off, none⟩) n cap) rs) (hk : k ≤ n) : Parts rs b off n k w := by
  have hn : n = rs.length := by obtain ⟨a', cap', e, _⟩ := h; injection e
  refine ⟨fun c => h.cap c, fun c => (h.cap c).take hk, fun a c ha => ?_⟩
  by_cases hkn : n = k
  · have e1 : rs.drop k = [] := List.drop_eq_nil_of_le (by omega)
    rw [e1, show n - k = 0 by omega]
    exact IsRecs.nil w a c
  · rcases ha with rfl | ha
    · have h2 := (h.cap (n + 1)).drop hk (by omega)
      rw [if_neg (by omega)] at h2
      exact h2.cap c
    · exact absurd ha hkn
theorem Parts.below {rs : List Rp.Rec} {b off n k : Nat} {w w' : World} (h : Parts rs b off n k w) (hb : Below w.heap.size w w') : Parts rs b off n k w' :=
  ⟨fun c => (h.1 c).below hb (Nat.le_refl _), fun c => (h.2.1 c).below hb (Nat.le_refl _), fun a c ha => (h.2.2 a c ha).below hb (Nat.le_refl _)⟩

/-- What the calls behind the loop answer, of records of little data: kept together. -/
structure Back (rs : List Rp.Rec) (k : Nat) (h1 l : List Fp.Pr) (B1 B2 : List UInt8) : Prop where
  f1 : ∀ W v1, IsRecs W v1 (rs.take k) → Calls Try.prog 19 #[.slice none 0 0, v1] W fun e w' => ∃ v, e = .returned v ∧ IsPrs w' v h1 ∧ Below W.heap.size W w'
  f2 : ∀ W v v2, IsPrs W v h1 → IsRecs W v2 (rs.drop k) → Calls Try.prog 19 #[v, v2] W fun e w' => ∃ v, e = .returned v ∧ IsPrs w' v l ∧ Below W.heap.size W w'
  f3 : ∀ W v3, IsRecs W v3 rs → Calls Try.prog 19 #[.slice none 0 0, v3] W fun e w' => ∃ v, e = .returned v ∧ IsPrs w' v l ∧ Below W.heap.size W w'
  y1 : ∀ W v, IsPrs W v h1 → Calls Try.prog 14 #[v] W fun e w' => e = .returned (.string ⟨B1.toArray⟩) ∧ Below W.heap.size W w'
  y2 : ∀ W v, IsPrs W v l → Calls Try.prog 14 #[v] W fun e w' => e = .returned (.string ⟨B2.toArray⟩) ∧ Below W.heap.size W w'
  p : ∀ W, Calls Try.prog 16 #[.string ⟨B2.toArray⟩] W fun e w' => ∃ v, e = .returned (.tuple #[v, .bool true]) ∧ IsPrs w' v l ∧ Below W.heap.size W w'
  r : ∀ W v, IsPrs W v l → Calls Try.prog 9 #[v] W fun e w' => e = .returned (.bool true) ∧ Below W.heap.size W w'

theorem back_of (rs : List Rp.Rec) (k : Nat) (hs : ∀ r ∈ rs, r.d.size ≤ 64) :
    ∃ h1 l B1 B2, Back rs k h1 l B1 B2 := by
  have t1 : Fp.St (Fp.fold [] (datas (rs.take k))) := Fp.St.nil.fold (datas_small fun r hr => hs r (List.mem_of_mem_take hr))
  have t2 : Fp.St (Fp.fold [] (datas rs)) := Fp.St.nil.fold (datas_small hs)
  have e : Fp.fold (Fp.fold [] (datas (rs.take k))) (datas (rs.drop k)) = Fp.fold [] (datas rs) := by rw [← Fp.fold_append, ← datas_app]
  refine ⟨Fp.fold [] (datas (rs.take k)), Fp.fold [] (datas rs), Fp.bytes (Fp.fold [] (datas (rs.take k))), Fp.bytes (Fp.fold [] (datas rs)), ?_⟩
  refine ⟨fun W v1 hW => ?_, fun W v v2 hv hW => ?_, fun W v3 hW => ?_, fun W v hv => ?_, fun W v hv => ?_, fun W => ?_, fun W v hv => ?_⟩
  · refine (fold_any (.slice none 0 0) [] v1 (rs.take k) W (IsPrs.nil W none 0) Fp.Up.nil hW).mono ?_
    rintro e w' h
    exact h.is t1.2 (st_big t1)
  · have F := fold_any v (Fp.fold [] (datas (rs.take k))) v2 (rs.drop k) W hv t1.2 hW
    rw [show (rs.drop k).map (·.d) = datas (rs.drop k) from rfl, e] at F
    refine F.mono ?_
    rintro e w' h
    exact h.is t2.2 (st_big t2)
  · refine (fold_any (.slice none 0 0) [] v3 rs W (IsPrs.nil W none 0) Fp.Up.nil hW).mono ?_
    rintro e w' h
    exact h.is t2.2 (st_big t2)
  · exact fbytes_any v _ W hv (st_few t1)
  · exact fbytes_any v _ W hv (st_few t2)
  · have P := fparse_any ⟨(Fp.bytes (Fp.fold [] (datas rs))).toArray⟩ W (by rw [size_mk_list]; have := bytes_len t2; omega)
    unfold ParseOut at P
    rw [show (⟨(Fp.bytes (Fp.fold [] (datas rs))).toArray⟩ : ByteArray).data.toList = Fp.bytes (Fp.fold [] (datas rs)) from rfl, Fp.parse_bytes t2] at P
    exact P
  · have R := fright_any v _ W hv
    rw [Fp.stB_yes t2] at R
    exact R

theorem small_take64 {rs : List Rp.Rec} {k : Nat} (hk : k < rs.length) (h : ∀ r ∈ rs.take k, r.d.size ≤ 64) (h1 : (rs.getD k Rp.zero).d.size ≤ 64) : ∀ r ∈ rs.take (k + 1), r.d.size ≤ 64 := by
  intro r hr
  rw [List.take_succ_eq_append_getElem hk] at hr
  rcases List.mem_append.1 hr with hr | hr
  · exact h r hr
  · rw [List.mem_singleton] at hr
    rw [hr, ← getD_rec hk]; exact h1

set_option maxRecDepth 100000 in
set_option maxHeartbeats 3200000 in
theorem back5_some (rs : List Rp.Rec) (b off cap m : Nat) (w : World) (hi : IsRecs w (.slice (some ⟨b, off, none⟩) rs.length cap) rs) (hcap : rs.length ≤ cap) (hm8 : m ≤ 255) (h : fewB rs 60 = true)
    (hc : ∀ i, i < rs.length → w.cell? ⟨b, off + i * 3, none⟩ = some (.int .i64 (rs.getD i Rp.zero).a) ∧ w.cell? ⟨b, off + i * 3 + 1, none⟩ = some (.int .i64 (rs.getD i Rp.zero).t) ∧ w.cell? ⟨b, off + i * 3 + 2, none⟩ = some (.string (rs.getD i Rp.zero).d)) :
    Calls Try.prog 5 #[.slice (some ⟨b, off, none⟩) rs.length cap, .int .u8 (m : Int)] w fun e w' => e = .returned (.bool true) ∧ Below w.heap.size w w' := by
  have C := few_any _ rs 60 w (by omega) hi
  rw [h] at C
  have C := Lib.hid C
  have hl60 := fewB_le h
  obtain ⟨k, hk⟩ : ∃ k, m % (rs.length + 1) = k := ⟨_, rfl⟩
  have hkl : k ≤ rs.length := by rw [← hk]; have := Nat.mod_lt m (show 0 < rs.length + 1 by omega); omega
  have hmod : (m : Int) % ((rs.length : Int) + 1) = (k : Int) := by rw [← hk]; simp
  have HB := Lib.hid (back_of rs k)
  have HI := Lib.hid (parts_of hi hkl)
  have HC := Lib.hid hc
  clear h hi hk hc
  obtain ⟨len, hlen⟩ : ∃ len, rs.length = len := ⟨_, rfl⟩
  rw [hlen] at HC HI C hmod hkl hcap hl60 ⊢
  have HL := Lib.hid hlen
  clear hlen
  have hkc : k ≤ cap := by omega
  go_enter Try.func5, Try.ntmps5
  go_wp2_with fail
  refine C.out.mono ?_
  rintro e w1 ⟨rfl, rfl⟩
  go_wp2_with fail
  go_loop [5] (fun i => ∃ j : Nat, j ≤ len ∧ i = .int .i64 j ∧ ∀ r ∈ rs.take j, r.d.size ≤ 64) (fun i => len - (intOf i).toNat)
  case atStart => exact ⟨0, Nat.zero_le _, rfl, by simp⟩
  case round =>
    obtain ⟨j, hj, rfl, hs⟩ := hrel
    have HS := Lib.hid hs
    clear hs
    by_cases hlt : j < len
    · have hlt' : j < rs.length := by rw [HL.out]; exact hlt
      obtain ⟨c0, c1, c2⟩ := HC.out j hlt
      have HT := Lib.hid (small_take64 hlt' HS.out)
      clear hlt'
      generalize rs.getD j Rp.zero = r at *
      by_cases hb : 64 < (r.d.size : Int)
      · go_wp2_with fail
        refine (awake05 _).mono ?_
        rintro e w3 ⟨rfl, hbel⟩
        go_wp2_with fail
        go_ret
        exact ⟨rfl, hbel⟩
      · have HF := Lib.hid (HT.out (by omega))
        go_wp2_with fail
        go_round
        case rel => exact ⟨j + 1, by omega, by go_num, HF.out⟩
        case measure => simp [intOf]; omega
    · have hall : rs.take j = rs := List.take_of_length_le (by rw [HL.out]; omega)
      obtain ⟨h1, l, B1, B2, hB⟩ := HB.out (by have := HS.out; rwa [hall] at this)
      have HK := Lib.hid hB
      clear hall hB
      go_wp2_with fail
      refine (HK.out.f1 _ _ (HI.out.2.1 _)).mono ?_
      rintro e w1 ⟨v1, rfl, i1, b1⟩
      have P1 := Lib.hid i1
      have I1 := Lib.hid (HI.out.below b1)
      have D1 := Lib.hid b1
      clear i1 b1
      go_wp2_with fail
      refine (HK.out.y1 _ _ P1.out).mono ?_
      rintro e w2 ⟨rfl, b2⟩
      have P2 := Lib.hid (P1.out.below b2 (Nat.le_refl _))
      have I2 := Lib.hid (I1.out.below b2)
      have D2 := Lib.hid (bel_trans2 D1.out b2)
      clear b2
      go_wp2_with fail
      all_goals
        refine (HK.out.f2 _ _ _ P2.out (I2.out.2.2 _ _ (by first | exact .inl rfl | exact .inr (by omega)))).mono ?_
        rintro e w3 ⟨v3, rfl, i3, b3⟩
        have Q3 := Lib.hid i3
        have P3 := Lib.hid (P2.out.below b3 (Nat.le_refl _))
        have I3 := Lib.hid (I2.out.below b3)
        have D3 := Lib.hid (bel_trans2 D2.out b3)
        clear i3 b3
        go_wp2_with fail
        refine (HK.out.y2 _ _ Q3.out).mono ?_
        rintro e w4 ⟨rfl, b4⟩
        have Q4 := Lib.hid (Q3.out.below b4 (Nat.le_refl _))
        have P4 := Lib.hid (P3.out.below b4 (Nat.le_refl _))
        have I4 := Lib.hid (I3.out.below b4)
        have D4 := Lib.hid (bel_trans2 D3.out b4)
        clear b4
        go_wp2_with fail
        refine (HK.out.p _).mono ?_
        rintro e w5 ⟨v5, rfl, i5, b5⟩
        have S5 := Lib.hid i5
        have Q5 := Lib.hid (Q4.out.below b5 (Nat.le_refl _))
        have P5 := Lib.hid (P4.out.below b5 (Nat.le_refl _))
        have I5 := Lib.hid (I4.out.below b5)
        have D5 := Lib.hid (bel_trans2 D4.out b5)
        clear i5 b5
        go_wp2_with fail
        refine (awake05 _).mono ?_
        rintro e w6 ⟨rfl, b6⟩
        have S6 := Lib.hid (S5.out.below b6 (Nat.le_refl _))
        have Q6 := Lib.hid (Q5.out.below b6 (Nat.le_refl _))
        have P6 := Lib.hid (P5.out.below b6 (Nat.le_refl _))
        have I6 := Lib.hid (I5.out.below b6)
        have D6 := Lib.hid (bel_trans2 D5.out b6)
        clear b6
        go_wp2_with fail
        refine (HK.out.r _ _ Q6.out).mono ?_
        rintro e w7 ⟨rfl, b7⟩
        have S7 := Lib.hid (S6.out.below b7 (Nat.le_refl _))
        have Q7 := Lib.hid (Q6.out.below b7 (Nat.le_refl _))
        have P7 := Lib.hid (P6.out.below b7 (Nat.le_refl _))
        have I7 := Lib.hid (I6.out.below b7)
        have D7 := Lib.hid (bel_trans2 D6.out b7)
        clear b7
        go_wp2_with fail
        refine (HK.out.f3 _ _ (I7.out.1 _)).mono ?_
        rintro e w8 ⟨v8, rfl, i8, b8⟩
        have T8 := Lib.hid i8
        have S8 := Lib.hid (S7.out.below b8 (Nat.le_refl _))
        have Q8 := Lib.hid (Q7.out.below b8 (Nat.le_refl _))
        have P8 := Lib.hid (P7.out.below b8 (Nat.le_refl _))
        have D8 := Lib.hid (bel_trans2 D7.out b8)
        clear i8 b8
        go_wp2_with fail
        refine (fsame_yes v3 v8 _ _ Q8.out T8.out).mono ?_
        rintro e w9 ⟨rfl, b9⟩
        have S9 := Lib.hid (S8.out.below b9 (Nat.le_refl _))
        have Q9 := Lib.hid (Q8.out.below b9 (Nat.le_refl _))
        have P9 := Lib.hid (P8.out.below b9 (Nat.le_refl _))
        have D9 := Lib.hid (bel_trans2 D8.out b9)
        clear b9
        go_wp2_with fail
        refine (fsame_yes v3 v5 _ _ Q9.out S9.out).mono ?_
        rintro e wa ⟨rfl, ba⟩
        have Pa := Lib.hid (P9.out.below ba (Nat.le_refl _))
        have Da := Lib.hid (bel_trans2 D9.out ba)
        clear ba
        go_wp2_with fail
        refine (HK.out.y1 _ _ Pa.out).mono ?_
        rintro e wb ⟨rfl, bb⟩
        have Db := Lib.hid (bel_trans2 Da.out bb)
        clear bb
        go_wp2_with fail
        go_ret
        exact ⟨by simp, Db.out⟩


set_option maxRecDepth 100000 in
set_option maxHeartbeats 3200000 in
theorem back5_nil (a : Option Addr) (cap m : Nat) (w : World) (hm8 : m ≤ 255) :
    Calls Try.prog 5 #[.slice a 0 cap, .int .u8 (m : Int)] w fun e w' => e = .returned (.bool true) ∧ Below w.heap.size w w' := by
  have C := few_any (.slice a 0 cap) [] 60 w (by omega) (IsRecs.nil w a cap)
  rw [show fewB [] 60 = true from by decide] at C
  have C := Lib.hid C
  have hmod : (m : Int) % 1 = 0 := by omega
  obtain ⟨h1, l, B1, B2, hB⟩ := back_of [] 0 (by simp)
  have HK := Lib.hid hB
  clear hB
  cases a
  all_goals
    go_enter Try.func5, Try.ntmps5
    go_wp2_with fail
    refine C.out.mono ?_
    rintro e w1 ⟨rfl, rfl⟩
    go_wp2_with fail
    refine wp_loop_rounds 1 ?_
    rw [rounds_succ]
    go_wp2_with fail
    refine (HK.out.f1 _ _ (IsRecs.nil _ _ _)).mono ?_
    rintro e w1 ⟨v1, rfl, i1, b1⟩
    have P1 := Lib.hid i1
    have D1 := Lib.hid b1
    clear i1 b1
    go_wp2_with fail
    refine (HK.out.y1 _ _ P1.out).mono ?_
    rintro e w2 ⟨rfl, b2⟩
    have P2 := Lib.hid (P1.out.below b2 (Nat.le_refl _))
    have D2 := Lib.hid (bel_trans2 D1.out b2)
    clear b2
    go_wp2_with fail
    refine (HK.out.f2 _ _ _ P2.out (IsRecs.nil _ _ _)).mono ?_
    rintro e w3 ⟨v3, rfl, i3, b3⟩
    have Q3 := Lib.hid i3
    have P3 := Lib.hid (P2.out.below b3 (Nat.le_refl _))
    have D3 := Lib.hid (bel_trans2 D2.out b3)
    clear i3 b3
    go_wp2_with fail
    refine (HK.out.y2 _ _ Q3.out).mono ?_
    rintro e w4 ⟨rfl, b4⟩
    have Q4 := Lib.hid (Q3.out.below b4 (Nat.le_refl _))
    have P4 := Lib.hid (P3.out.below b4 (Nat.le_refl _))
    have D4 := Lib.hid (bel_trans2 D3.out b4)
    clear b4
    go_wp2_with fail
    refine (HK.out.p _).mono ?_
    rintro e w5 ⟨v5, rfl, i5, b5⟩
    have S5 := Lib.hid i5
    have Q5 := Lib.hid (Q4.out.below b5 (Nat.le_refl _))
    have P5 := Lib.hid (P4.out.below b5 (Nat.le_refl _))
    have D5 := Lib.hid (bel_trans2 D4.out b5)
    clear i5 b5
    go_wp2_with fail
    refine (awake05 _).mono ?_
    rintro e w6 ⟨rfl, b6⟩
    have S6 := Lib.hid (S5.out.below b6 (Nat.le_refl _))
    have Q6 := Lib.hid (Q5.out.below b6 (Nat.le_refl _))
    have P6 := Lib.hid (P5.out.below b6 (Nat.le_refl _))
    have D6 := Lib.hid (bel_trans2 D5.out b6)
    clear b6
    go_wp2_with fail
    refine (HK.out.r _ _ Q6.out).mono ?_
    rintro e w7 ⟨rfl, b7⟩
    have S7 := Lib.hid (S6.out.below b7 (Nat.le_refl _))
    have Q7 := Lib.hid (Q6.out.below b7 (Nat.le_refl _))
    have P7 := Lib.hid (P6.out.below b7 (Nat.le_refl _))
    have D7 := Lib.hid (bel_trans2 D6.out b7)
    clear b7
    go_wp2_with fail
    refine (HK.out.f3 _ _ (IsRecs.nil _ _ _)).mono ?_
    rintro e w8 ⟨v8, rfl, i8, b8⟩
    have T8 := Lib.hid i8
    have S8 := Lib.hid (S7.out.below b8 (Nat.le_refl _))
    have Q8 := Lib.hid (Q7.out.below b8 (Nat.le_refl _))
    have P8 := Lib.hid (P7.out.below b8 (Nat.le_refl _))
    have D8 := Lib.hid (bel_trans2 D7.out b8)
    clear i8 b8
    go_wp2_with fail
    refine (fsame_yes v3 v8 _ _ Q8.out T8.out).mono ?_
    rintro e w9 ⟨rfl, b9⟩
    have S9 := Lib.hid (S8.out.below b9 (Nat.le_refl _))
    have Q9 := Lib.hid (Q8.out.below b9 (Nat.le_refl _))
    have P9 := Lib.hid (P8.out.below b9 (Nat.le_refl _))
    have D9 := Lib.hid (bel_trans2 D8.out b9)
    clear b9
    go_wp2_with fail
    refine (fsame_yes v3 v5 _ _ Q9.out S9.out).mono ?_
    rintro e wa ⟨rfl, ba⟩
    have Pa := Lib.hid (P9.out.below ba (Nat.le_refl _))
    have Da := Lib.hid (bel_trans2 D9.out ba)
    clear ba
    go_wp2_with fail
    refine (HK.out.y1 _ _ Pa.out).mono ?_
    rintro e wb ⟨rfl, bb⟩
    have Db := Lib.hid (bel_trans2 Da.out bb)
    clear bb
    go_wp2_with fail
    go_ret
    exact ⟨by simp, Db.out⟩

theorem back5 (v : Value) (rs : List Rp.Rec) (m : Nat) (w : World) (hi : IsRecs w v rs) (hcap : CapOk v) (hm8 : m ≤ 255) :
    Calls Try.prog 5 #[v, .int .u8 (m : Int)] w fun e w' => e = .returned (.bool true) ∧ Below w.heap.size w w' := by
  rcases h : fewB rs 60 with _ | _
  · exact back5_many v rs m w hi h
  · have hi' := hi
    obtain ⟨a, cap, rfl, _, _, h3⟩ := hi
    rcases h3 with rfl | ⟨b, off, rfl, h4⟩
    · exact back5_nil a cap m w hm8
    · exact back5_some rs b off cap m w hi' (hcap _ _ _ rfl) hm8 h h4

end Go.Proofs.Ytndfpbolneofmaa

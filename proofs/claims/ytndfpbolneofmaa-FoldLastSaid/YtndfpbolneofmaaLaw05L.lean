/-
  What FoldLast answers: true, whatever it is given; nothing that was there is changed.
-/
import Derived.Test.YtndfpbolneofmaaLaw05B
import Derived.Test.YtndfpbolneofmaaRecOwn
namespace Go.Proofs.Ytndfpbolneofmaa
open Go.RowKit

set_option maxRecDepth 100000 in
set_option maxHeartbeats 800000 in
theorem last5_many (v : Value) (rs : List Rp.Rec) (w : World) (hi : IsRecs w v rs) (h : fewB rs 60 = false) :
    Calls Try.prog 6 #[v] w fun e w' => e = .returned (.bool true) ∧ Below w.heap.size w w' := by
  have C := few_any v rs 60 w (by omega) hi
  rw [h] at C
  have C := Lib.hid C
  obtain ⟨a, cap, rfl, _, _, _⟩ := hi
  generalize rs.length = len at *
  clear h
  go_enter Try.func6, Try.ntmps6
  go_wp2_with fail
  refine C.out.mono ?_
  rintro e w1 ⟨rfl, rfl⟩
  go_wp2_with fail
  refine (awake05 _).mono ?_
  rintro e w3 ⟨rfl, hbel⟩
  go_wp2_with fail
  go_ret
  exact ⟨rfl, hbel⟩

/-- What the law's outer loop keeps: the last ones so far. -/
structure LastIn (w : World) (rs : List Rp.Rec) (i : Nat) (acc : List Rp.Rec) (v : Value) (wr : World) : Prop where
  own : wr.ownsRow w.heap.size 35 3 v acc.length (recVals acc)
  is : acc ++ Fp.lastBy (fun r : Rp.Rec => r.d) (rs.drop i) = Fp.lastBy (fun r : Rp.Rec => r.d) rs
  len : acc.length ≤ i
  small : ∀ r ∈ rs.take i, r.d.size ≤ 64
  bel : Below w.heap.size w wr
/-- What the inner loop knows: whether a later one of the same key was met. -/
structure Only (rs : List Rp.Rec) (i k : Nat) (b : Bool) : Prop where
  lo : i + 1 ≤ k
  yes : b = true → (rs.getD i Rp.zero).d.size ≠ 0 ∧ ∀ j, i + 1 ≤ j → j < k → (rs.getD j Rp.zero).d.size = 0 ∨ Fp.key (rs.getD j Rp.zero).d ≠ Fp.key (rs.getD i Rp.zero).d
  no : b = false → ¬ Fp.Over (fun r : Rp.Rec => r.d) (rs.getD i Rp.zero) (rs.drop (i + 1))
theorem drop_mem {rs : List Rp.Rec} {i : Nat} {t : Rp.Rec} : t ∈ rs.drop i ↔ ∃ j, i ≤ j ∧ j < rs.length ∧ t = rs.getD j Rp.zero := by
  constructor
  · intro h
    obtain ⟨n, hn, rfl⟩ := List.getElem_of_mem h
    rw [List.length_drop] at hn
    refine ⟨i + n, by omega, by omega, ?_⟩
    rw [List.getElem_drop, getD_rec (by omega)]
  · rintro ⟨j, h1, h2, rfl⟩
    rw [getD_rec h2]
    refine List.mem_iff_getElem.2 ⟨j - i, by rw [List.length_drop]; omega, ?_⟩
    rw [List.getElem_drop]
    congr 1
    omega
theorem Only.over {rs : List Rp.Rec} {i k : Nat} (h : Only rs i k true) (hk : rs.length ≤ k) : Fp.Over (fun r : Rp.Rec => r.d) (rs.getD i Rp.zero) (rs.drop (i + 1)) := by
  refine ⟨(h.yes rfl).1, fun t ht => ?_⟩
  obtain ⟨j, h1, h2, rfl⟩ := drop_mem.1 ht
  exact (h.yes rfl).2 j h1 (by omega)
theorem Only.start {rs : List Rp.Rec} {i : Nat} : Only rs i (i + 1) (decide (0 < (rs.getD i Rp.zero).d.size)) := by
  refine ⟨Nat.le_refl _, fun h => ⟨?_, fun j h1 h2 => by omega⟩, fun h ho => ?_⟩
  · have := of_decide_eq_true h; omega
  · have := of_decide_eq_false h
    have h2 := ho.1
    simp only at h2
    omega
theorem Only.next {rs : List Rp.Rec} {i k : Nat} (h : Only rs i k true) (hd : (rs.getD k Rp.zero).d.size = 0 ∨ Fp.key (rs.getD k Rp.zero).d ≠ Fp.key (rs.getD i Rp.zero).d) : Only rs i (k + 1) true := by
  refine ⟨by have := h.lo; omega, fun _ => ⟨(h.yes rfl).1, fun j h1 h2 => ?_⟩, fun h0 => by cases h0⟩
  rcases Nat.lt_or_ge j k with h3 | h3
  · exact (h.yes rfl).2 j h1 h3
  · obtain rfl : j = k := by omega
    exact hd
theorem Only.met {rs : List Rp.Rec} {i k : Nat} (h : Only rs i k true) (hk : k < rs.length) (h0 : (rs.getD k Rp.zero).d.size ≠ 0) (he : Fp.key (rs.getD k Rp.zero).d = Fp.key (rs.getD i Rp.zero).d) : Only rs i (k + 1) false := by
  refine ⟨by have := h.lo; omega, fun h0 => (by cases h0), fun _ ho => ?_⟩
  rcases ho.2 _ (drop_mem.2 ⟨k, h.lo, hk, rfl⟩) with h1 | h1
  · exact h0 h1
  · exact h1 he
theorem last_yes {rs acc : List Rp.Rec} {i : Nat} (hi : i < rs.length) (h : acc ++ Fp.lastBy (fun r : Rp.Rec => r.d) (rs.drop i) = Fp.lastBy (fun r : Rp.Rec => r.d) rs) (ho : Fp.Over (fun r : Rp.Rec => r.d) (rs.getD i Rp.zero) (rs.drop (i + 1))) :
    (acc ++ [rs.getD i Rp.zero]) ++ Fp.lastBy (fun r : Rp.Rec => r.d) (rs.drop (i + 1)) = Fp.lastBy (fun r : Rp.Rec => r.d) rs := by
  rw [← h, List.drop_eq_getElem_cons hi, ← getD_rec hi, Fp.lastBy_yes ho]
  simp
theorem last_no {rs acc : List Rp.Rec} {i : Nat} (hi : i < rs.length) (h : acc ++ Fp.lastBy (fun r : Rp.Rec => r.d) (rs.drop i) = Fp.lastBy (fun r : Rp.Rec => r.d) rs) (ho : ¬ Fp.Over (fun r : Rp.Rec => r.d) (rs.getD i Rp.zero) (rs.drop (i + 1))) :
    acc ++ Fp.lastBy (fun r : Rp.Rec => r.d) (rs.drop (i + 1)) = Fp.lastBy (fun r : Rp.Rec => r.d) rs := by
  rw [← h, List.drop_eq_getElem_cons hi, ← getD_rec hi, Fp.lastBy_no ho]
theorem news_at (w : World) (N : Nat) (a b c : Value) (T : TypeId) (h : w.heap.size = N) : ∀ (j : Nat) (u : Value), [a, b, c][j]? = some u → (w.alloc (.cells #[a, b, c] T)).cell? ((⟨N, 0, none⟩ : Addr).add j) = some u := by
  subst h
  intro j u h
  rw [add_plain, row_cell (heap_alloc_new w (.cells #[a, b, c] T))]
  simpa using h

/-- What the calls behind the loops answer: the same state twice. -/
theorem last_calls (rs : List Rp.Rec) (hs : ∀ r ∈ rs, r.d.size ≤ 64) : ∃ l,
    (∀ W v, IsRecs W v rs → Calls Try.prog 19 #[.slice none 0 0, v] W fun e w' => ∃ v, e = .returned v ∧ IsPrs w' v l ∧ Below W.heap.size W w') ∧
    (∀ W v, IsRecs W v (Fp.lastBy (fun r : Rp.Rec => r.d) rs) → Calls Try.prog 19 #[.slice none 0 0, v] W fun e w' => ∃ v, e = .returned v ∧ IsPrs w' v l ∧ Below W.heap.size W w') := by
  have t2 : Fp.St (Fp.fold [] (datas rs)) := Fp.St.nil.fold (datas_small hs)
  refine ⟨Fp.fold [] (datas rs), fun W v hW => ?_, fun W v hW => ?_⟩
  · refine (fold_any (.slice none 0 0) [] v rs W (IsPrs.nil W none 0) Fp.Up.nil hW).mono ?_
    rintro e w' h
    exact h.is t2.2 (st_big t2)
  · have F := fold_any (.slice none 0 0) [] v _ W (IsPrs.nil W none 0) Fp.Up.nil hW
    rw [Fp.fold_last (fun r : Rp.Rec => r.d) rs [] Fp.Up.nil] at F
    refine F.mono ?_
    rintro e w' h
    exact OwnOut.is (l := Fp.fold [] (datas rs)) h t2.2 (st_big t2)

set_option maxRecDepth 100000 in
set_option maxHeartbeats 6400000 in
theorem last5_some (rs : List Rp.Rec) (b off cap : Nat) (w : World) (hi : IsRecs w (.slice (some ⟨b, off, none⟩) rs.length cap) rs) (h : fewB rs 60 = true)
    (hc : ∀ i, i < rs.length → w.cell? ⟨b, off + i * 3, none⟩ = some (.int .i64 (rs.getD i Rp.zero).a) ∧ w.cell? ⟨b, off + i * 3 + 1, none⟩ = some (.int .i64 (rs.getD i Rp.zero).t) ∧ w.cell? ⟨b, off + i * 3 + 2, none⟩ = some (.string (rs.getD i Rp.zero).d)) :
    Calls Try.prog 6 #[.slice (some ⟨b, off, none⟩) rs.length cap] w fun e w' => e = .returned (.bool true) ∧ Below w.heap.size w w' := by
  obtain ⟨i0, hi0, hz0, hz1, hz2⟩ := info_parts info_rec
  have C := few_any _ rs 60 w (by omega) hi
  rw [h] at C
  have C := Lib.hid C
  have hl60 := fewB_le h
  have HI := Lib.hid hi
  have HC := Lib.hid hc
  have HOKR := Lib.hid (show ∀ r ∈ rs, RecOk r by obtain ⟨_, _, _, _, h2, _⟩ := hi; exact h2)
  have HSTART : Hid (LastIn w rs 0 [] (.slice none 0 0) w) := ⟨World.ownsRow_nil _ _ _ _, by simp, Nat.le_refl _, by simp, Below.refl _ _⟩
  clear h hi hc
  obtain ⟨len, hlen⟩ : ∃ len, rs.length = len := ⟨_, rfl⟩
  rw [hlen] at HC HI C hl60 ⊢
  have HL := Lib.hid hlen
  clear hlen
  go_enter Try.func6, Try.ntmps6
  go_wp2_with fail
  refine C.out.mono ?_
  rintro e w1 ⟨rfl, rfl⟩
  go_wp2_with fail
  go_loopw [3, 4] (fun v x wr => ∃ (i : Nat) (acc : List Rp.Rec), i ≤ len ∧ x = .int .i64 i ∧ LastIn w rs i acc v wr) (fun _ x _ => len - (intOf x).toNat)
  case atStart => exact ⟨0, [], Nat.zero_le _, rfl, HSTART.out⟩
  case round =>
    obtain ⟨i, acc, hil, rfl, hr⟩ := hrel
    have HR := Lib.hid hr
    have hal := hr.len
    have HS := Lib.hid hr.bel.size
    clear hr
    by_cases hlt : i < len
    · have hlt' : i < rs.length := by rw [HL.out]; exact hlt
      obtain ⟨c0, c1, c2⟩ := HC.out i hlt
      have hbb := block_lt_of_cell c0
      have bel := HR.out.bel
      have z0 : wr.cell? ⟨b, off + i * 3, none⟩ = some (.int .i64 (rs.getD i Rp.zero).a) := by rw [bel.cell (p := ⟨b, off + i * 3, none⟩) hbb]; exact c0
      have z1 : wr.cell? ⟨b, off + i * 3 + 1, none⟩ = some (.int .i64 (rs.getD i Rp.zero).t) := by rw [bel.cell (p := ⟨b, off + i * 3 + 1, none⟩) hbb]; exact c1
      have z2 : wr.cell? ⟨b, off + i * 3 + 2, none⟩ = some (.string (rs.getD i Rp.zero).d) := by rw [bel.cell (p := ⟨b, off + i * 3 + 2, none⟩) hbb]; exact c2
      have HCW : Hid (∀ k, k < len → wr.cell? ⟨b, off + k * 3 + 2, none⟩ = some (.string (rs.getD k Rp.zero).d)) := fun k hk => by rw [bel.cell (p := ⟨b, off + k * 3 + 2, none⟩) hbb]; exact (HC.out k hk).2.2
      have HB := Lib.hid bel
      clear c0 c1 c2 bel
      have HT := Lib.hid (small_take64 hlt' HR.out.small)
      have HY := Lib.hid fun h => last_yes hlt' HR.out.is h
      have HN := Lib.hid fun h => last_no hlt' HR.out.is h
      have HO := Lib.hid (@Only.start rs i)
      have HOV := Lib.hid fun k (h : Only rs i k true) (hk : len ≤ k) => h.over (by rw [HL.out]; exact hk)
      have HNO := Lib.hid fun k (h : Only rs i k false) => h.no rfl
      have HNX := Lib.hid fun k (h : Only rs i k true) => h.next
      have HME := Lib.hid fun k (h : Only rs i k true) (hk : k < len) => h.met (by rw [HL.out]; exact hk)
      have HYS := Lib.hid fun k (h : Only rs i k true) => (h.yes rfl).1
      clear hlt'
      generalize rs.getD i Rp.zero = r at *
      by_cases hb : 64 < (r.d.size : Int)
      · go_wp2_with fail
        refine (awake05 _).mono ?_
        rintro e w3 ⟨rfl, b3⟩
        have HB3 := Lib.hid (HB.out.trans (b3.mono HS.out))
        clear b3
        go_wp2_with fail
        go_ret
        exact ⟨rfl, HB3.out⟩
      · have HT2 := Lib.hid (HT.out (by omega))
        obtain ⟨b0, hb0⟩ : ∃ b0, decide (0 < r.d.size) = b0 := ⟨_, rfl⟩
        rw [hb0] at HO
        have hb0' : decide ((0 : Int) < (r.d.size : Int)) = b0 := by rw [← hb0]; simp
        go_wp2_with fail
        go_loopw [5, 6] (fun y z wi => ∃ (k n : Nat) (b1 : Bool), k ≤ len ∧ y = .bool b1 ∧ z = .int .i64 k ∧ Only rs i k b1 ∧ wi = wr.drewN n) (fun _ z _ => len - (intOf z).toNat)
        case atStart => exact ⟨i + 1, 0, b0, by omega, rfl, by go_num, HO.out, rfl⟩
        case round =>
          obtain ⟨k, n, b1, hkl, rfl, rfl, ho, rfl⟩ := hrel
          have HK := Lib.hid ho
          clear ho
          by_cases hgo : k < len ∧ b1 = true
          · obtain ⟨hkt, rfl⟩ := hgo
            have y2 := HCW.out k hkt
            have hr0 := HYS.out k HK.out
            have hr1 : (0 : Int) < (r.d.size : Int) := by omega
            have NX := Lib.hid (HNX.out k HK.out)
            have ME := Lib.hid (HME.out k HK.out hkt)
            generalize rs.getD k Rp.zero = t at *
            by_cases ht0 : t.d.size = 0
            · have HN2 := Lib.hid (NX.out (.inl ht0))
              have hE := emp_yes ht0
              clear ht0
              go_wp2_with fail
              go_quiet (fail)
              go_wp2_with fail
              go_roundw
              case rel => exact ⟨k + 1, _, true, by omega, rfl, by go_num, HN2.out, rfl⟩
              case measure => simp [intOf]; omega
            · have ht1 : 0 < t.d.size := by omega
              have hr2 : 0 < r.d.size := by omega
              have ht2 : (0 : Int) < (t.d.size : Int) := by omega
              have hE := emp_no ht1
              have K1 := key_at t.d ht1
              have K2 := key_at r.d hr2
              by_cases hkey : t.d[0].toNat = r.d[0].toNat
              · have HM2 := Lib.hid (ME.out ht0 (by rw [K1, K2]; exact UInt8.toNat_inj.1 hkey))
                have hd : ((t.d[0].toNat : Int) != (r.d[0].toNat : Int)) = false := by simp [hkey]
                clear K1 K2 ht0 hkey
                go_wp2_with fail
                go_quiet (fail)
                go_wp2_with fail
                go_roundw
                case rel => exact ⟨k + 1, _, false, by omega, rfl, by go_num, HM2.out, rfl⟩
                case measure => simp [intOf]; omega
              · have HN2 := Lib.hid (NX.out (.inr (by rw [K1, K2]; exact fun e => hkey (by rw [e]))))
                have hd : ((t.d[0].toNat : Int) != (r.d[0].toNat : Int)) = true := by simp; omega
                clear K1 K2 ht0 hkey
                go_wp2_with fail
                go_quiet (fail)
                go_wp2_with fail
                go_roundw
                case rel => exact ⟨k + 1, _, true, by omega, rfl, by go_num, HN2.out, rfl⟩
                case measure => simp [intOf]; omega
          · rcases b1 with _ | _
            · have HI2 : Hid (∀ v, LastIn w rs i acc v wr → LastIn w rs (i + 1) acc v (wr.drewN n)) := fun v h => ⟨own_below h.own (bel_drewN n), HN.out (HNO.out k HK.out), by have := h.len; omega, HT2.out, h.bel.trans ((bel_drewN n).mono HS.out)⟩
              have HI3 := Lib.hid (HI2.out _ HR.out)
              clear HI2 hgo
              by_cases hkk : k < len
              all_goals
                go_wp2_with fail
                go_roundw
                case rel => exact ⟨i + 1, acc, by omega, by go_num, HI3.out⟩
                case measure => simp [intOf]; omega
            · have hke : ¬ k < len := fun h => hgo ⟨h, rfl⟩
              have HV := Lib.hid (HY.out (HOV.out k HK.out (by omega)))
              have HB0 := Lib.hid (HB.out.trans ((bel_drewN n).mono HS.out))
              have HO0 : Hid (∀ v, LastIn w rs i acc v wr → (wr.drewN n).ownsRow w.heap.size 35 3 v acc.length (recVals acc)) := fun v h => own_below h.own (bel_drewN n)
              have HO1 := Lib.hid (HO0.out _ HR.out)
              have S0 := Lib.hid HB0.out.size
              clear HO0 hgo
              go_wp2_with (at_builtin; refine wpList_append_own _ rfl _ _ 32 rfl w.heap.size 35 i0 (.agg #[.int .i64 0, .int .i64 0, .string ByteArray.empty]) 3 32 Try.underlying32 hi0 hz0 hz1 hz2 rfl (by decide) _ _ _ rfl (HO1.out.alloc _) ⟨wr.heap.size, 0, none⟩ 1 1 [.int .i64 r.a, .int .i64 r.t, .string r.d] rfl rfl (news_at _ _ _ _ _ _ (by simp)) (by simp [Value.oneCell']) (by unfold maxLen; omega) (by omega) (by simp; have := S0.out; simp at this; omega) ?_; intro v' w3 hown' hgrow3 hnil3)
              have HI3 : Hid (LastIn w rs (i + 1) (acc ++ [r]) v' w3) := ⟨own_rec_snoc hown', HV.out, by rw [List.length_append]; have := HR.out.len; simp; omega, HT2.out, (HB0.out.alloc S0.out _).grown hgrow3 (by simp; have := S0.out; simp at this; omega) (fun q hq => (HO1.out.lt q hq).1)⟩
              clear hown' hgrow3
              go_roundw
              case rel => exact ⟨i + 1, acc ++ [r], by omega, by go_num, HI3.out⟩
              case measure => simp [intOf]; omega
    · obtain rfl : i = len := by omega
      have hall : rs.take i = rs := List.take_of_length_le (by rw [HL.out]; exact Nat.le_refl _)
      obtain ⟨l, g1, g2⟩ := last_calls rs (by have := HR.out.small; rwa [hall] at this)
      have G1 := Lib.hid g1
      have G2 := Lib.hid g2
      have hacc : acc = Fp.lastBy (fun r : Rp.Rec => r.d) rs := by
        have := HR.out.is
        rw [List.drop_eq_nil_of_le (by rw [HL.out]; exact Nat.le_refl _), Fp.lastBy, List.append_nil] at this
        exact this
      have HLST : Hid (∀ v, LastIn w rs i acc v wr → IsRecs wr v (Fp.lastBy (fun r : Rp.Rec => r.d) rs)) := fun v h => by
        rw [← hacc]
        exact IsRecs.own_ok h.own (by have := h.len; unfold maxLen; omega) (fun r hr => HOKR.out r (Fp.lastBy_sub _ _ r (by rw [← hacc]; exact hr)))
      have HLS := Lib.hid (HLST.out _ HR.out)
      have HIA := Lib.hid (HI.out.below HR.out.bel (Nat.le_refl _))
      have HB := Lib.hid HR.out.bel
      clear hall g1 g2 hacc HLST
      go_wp2_with fail
      refine (awake05 _).mono ?_
      rintro e w1 ⟨rfl, b1⟩
      have I1 := Lib.hid (HIA.out.below b1 (Nat.le_refl _))
      have L1 := Lib.hid (HLS.out.below b1 (Nat.le_refl _))
      have D1 := Lib.hid (HB.out.trans (b1.mono HS.out))
      clear b1
      go_wp2_with fail
      refine (G1.out _ _ I1.out).mono ?_
      rintro e w2 ⟨v2, rfl, i2, b2⟩
      have P2 := Lib.hid i2
      have L2 := Lib.hid (L1.out.below b2 (Nat.le_refl _))
      have D2 := Lib.hid (bel_trans2 D1.out b2)
      clear i2 b2
      go_wp2_with fail
      refine (G2.out _ _ L2.out).mono ?_
      rintro e w3 ⟨v3, rfl, i3, b3⟩
      have Q3 := Lib.hid i3
      have P3 := Lib.hid (P2.out.below b3 (Nat.le_refl _))
      have D3 := Lib.hid (bel_trans2 D2.out b3)
      clear i3 b3
      go_wp2_with fail
      refine (fsame_yes v2 v3 _ _ P3.out Q3.out).mono ?_
      rintro e w4 ⟨rfl, b4⟩
      have D4 := Lib.hid (bel_trans2 D3.out b4)
      clear b4
      go_wp2_with fail
      go_ret
      exact ⟨rfl, D4.out⟩

set_option maxRecDepth 100000 in
set_option maxHeartbeats 1600000 in
theorem last5_nil (a : Option Addr) (cap : Nat) (w : World) :
    Calls Try.prog 6 #[.slice a 0 cap] w fun e w' => e = .returned (.bool true) ∧ Below w.heap.size w w' := by
  have C := few_any (.slice a 0 cap) [] 60 w (by omega) (IsRecs.nil w a cap)
  rw [show fewB [] 60 = true from by decide] at C
  have C := Lib.hid C
  obtain ⟨l, g1, _⟩ := last_calls [] (by simp)
  have G1 := Lib.hid g1
  clear g1
  go_enter Try.func6, Try.ntmps6
  go_wp2_with fail
  refine C.out.mono ?_
  rintro e w1 ⟨rfl, rfl⟩
  go_wp2_with fail
  refine wp_loop_rounds 1 ?_
  rw [rounds_succ]
  go_wp2_with fail
  refine (awake05 _).mono ?_
  rintro e w1 ⟨rfl, b1⟩
  have D1 := Lib.hid b1
  clear b1
  go_wp2_with fail
  refine (G1.out _ _ (IsRecs.nil _ _ _)).mono ?_
  rintro e w2 ⟨v2, rfl, i2, b2⟩
  have P2 := Lib.hid i2
  have D2 := Lib.hid (bel_trans2 D1.out b2)
  clear i2 b2
  go_wp2_with fail
  refine (G1.out _ _ (IsRecs.nil _ _ _)).mono ?_
  rintro e w3 ⟨v3, rfl, i3, b3⟩
  have Q3 := Lib.hid i3
  have P3 := Lib.hid (P2.out.below b3 (Nat.le_refl _))
  have D3 := Lib.hid (bel_trans2 D2.out b3)
  clear i3 b3
  go_wp2_with fail
  refine (fsame_yes v2 v3 _ _ P3.out Q3.out).mono ?_
  rintro e w4 ⟨rfl, b4⟩
  have D4 := Lib.hid (bel_trans2 D3.out b4)
  clear b4
  go_wp2_with fail
  go_ret
  exact ⟨rfl, D4.out⟩

theorem last5 (v : Value) (rs : List Rp.Rec) (w : World) (hi : IsRecs w v rs) :
    Calls Try.prog 6 #[v] w fun e w' => e = .returned (.bool true) ∧ Below w.heap.size w w' := by
  rcases h : fewB rs 60 with _ | _
  · exact last5_many v rs w hi h
  · have hi' := hi
    obtain ⟨a, cap, rfl, _, _, h3⟩ := hi
    rcases h3 with rfl | ⟨b, off, rfl, h4⟩
    · exact last5_nil a cap w
    · exact last5_some rs b off cap w hi' h h4

end Go.Proofs.Ytndfpbolneofmaa

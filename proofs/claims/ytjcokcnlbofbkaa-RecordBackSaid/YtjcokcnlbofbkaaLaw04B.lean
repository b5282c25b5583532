/-
  What RecordBack answers: true, whatever it is given; nothing that was there is changed.
-/
import Derived.Test.YtjcokcnlbofbkaaLaw04O
import Derived.Test.YtjcokcnlbofbkaaRecRow
import Derived.Test.YtjcokcnlbofbkaaRecSame
namespace Go.Proofs.Ytjcokcnlbofbkaa
open Go.RowKit

theorem row_cases (rs : List Rp.Rec) : ((∀ r ∈ rs, Rp.Ok r) ∧ Rp.row rs = (Rp.rowB rs, 0)) ∨ ((¬ ∀ r ∈ rs, Rp.Ok r) ∧ ∃ e, (e = 5 ∨ e = 6) ∧ Rp.row rs = ([], e)) := by
  induction rs with
  | nil => exact .inl ⟨by simp, rfl⟩
  | cons r rs ih =>
    rcases Rp.fault_cases r with ⟨hf, hok⟩ | ⟨hno, hf⟩
    · rcases ih with ⟨h1, h2⟩ | ⟨h1, e, he, h2⟩
      · have : ∀ x ∈ r :: rs, Rp.Ok x := by
          intro x hx
          rcases List.mem_cons.1 hx with rfl | hx
          · exact hok
          · exact h1 x hx
        exact .inl ⟨this, Rp.row_ok _ this⟩
      · refine .inr ⟨fun h => h1 fun x hx => h x (List.mem_cons_of_mem _ hx), e, he, ?_⟩
        rw [Rp.row, if_pos hf, h2, if_neg (by show ¬ e = 0; omega)]
    · exact .inr ⟨fun h => hno (h r List.mem_cons_self), _, hf, by rw [Rp.row, if_neg (by omega)]⟩

set_option maxRecDepth 100000 in
set_option maxHeartbeats 800000 in
theorem back4_many (v : Value) (rs : List Rp.Rec) (w : World) (hi : IsRecs w v rs) (h : fewB rs 30 = false) :
    Calls Try.prog 5 #[v] w fun e w' => e = .returned (.bool true) ∧ Below w.heap.size w w' := by
  have C := few_any v rs 30 w (by omega) hi
  rw [h] at C
  have C := Lib.hid C
  obtain ⟨a, cap, rfl, _, _, _⟩ := hi
  generalize rs.length = len at *
  clear h
  go_enter Try.func5, Try.ntmps5
  go_wp2_with fail
  refine C.out.mono ?_
  rintro e w1 ⟨rfl, rfl⟩
  go_wp2_with fail
  refine (awake04 _).mono ?_
  rintro e w3 ⟨rfl, hbel⟩
  go_wp2_with fail
  go_ret
  exact ⟨rfl, hbel⟩

set_option maxRecDepth 100000 in
set_option maxHeartbeats 800000 in
theorem back4_none (a : Option Addr) (cap : Nat) (w : World) :
    Calls Try.prog 5 #[.slice a 0 cap] w fun e w' => e = .returned (.bool true) ∧ Below w.heap.size w w' := by
  have C := Lib.hid fun W : World => few_any (.slice a 0 cap) [] 30 W (by omega) (IsRecs.nil W a cap)
  have R := Lib.hid fun W : World => recrow_any (.slice a 0 cap) [] W (IsRecs.nil W a cap) (by simp)
  have C1 : ∀ W : World, Calls Try.prog 20 #[.string ⟨#[]⟩] W (RowsOut W []) := fun W : World => recrows_any ⟨#[]⟩ W (by decide) (by decide)
  unfold RowsOut at C1
  rw [Rp.rows_nil] at C1
  have C1 := Lib.hid C1
  have R : Hid (∀ W : World, Calls Try.prog 18 #[.slice a 0 cap] W fun e w' => e = .returned (.tuple #[.string ⟨#[]⟩, .int .i64 0]) ∧ Below W.heap.size W w') := R
  have C : Hid (∀ W : World, Calls Try.prog 17 #[.slice a 0 cap, .int .i64 30] W fun e w' => e = .returned (.bool true) ∧ W = w') := C
  go_enter Try.func5, Try.ntmps5
  go_wp2_with fail
  refine (C.out _).mono ?_
  rintro e w1 ⟨rfl, rfl⟩
  go_wp2_with fail
  refine (R.out _).mono ?_
  rintro e w1 ⟨rfl, b1⟩
  go_wp2_with fail
  refine wp_loop_rounds 1 ?_
  rw [rounds_succ]
  go_wp2_with fail
  refine (C1.out _).mono ?_
  rintro e w3 ⟨v3, rfl, i3, b3⟩
  have I3 := Lib.hid i3
  clear i3
  go_wp2_with fail
  refine (awake04 _).mono ?_
  rintro e w5 ⟨rfl, b5⟩
  go_wp2_with fail
  refine (recsame_yes _ v3 [] _ (IsRecs.nil _ a cap) (I3.out.below b5 (Nat.le_refl _))).mono ?_
  rintro e w6 ⟨rfl, n6, rfl⟩
  go_wp2_with fail
  go_ret
  exact ⟨rfl, bel_trans2 (bel_trans2 (bel_trans2 b1 b3) b5) (below_drewN n6)⟩

set_option maxRecDepth 100000 in
set_option maxHeartbeats 1600000 in
theorem back4_ok (rs : List Rp.Rec) (b off cap : Nat) (w : World) (hi : IsRecs w (.slice (some ⟨b, off, none⟩) rs.length cap) rs) (h : fewB rs 30 = true) (hok : ∀ r ∈ rs, Rp.Ok r)
    (hc : ∀ i, i < rs.length → w.cell? ⟨b, off + i * 3, none⟩ = some (.int .i64 (rs.getD i Rp.zero).a) ∧ w.cell? ⟨b, off + i * 3 + 1, none⟩ = some (.int .i64 (rs.getD i Rp.zero).t) ∧ w.cell? ⟨b, off + i * 3 + 2, none⟩ = some (.string (rs.getD i Rp.zero).d)) :
    Calls Try.prog 5 #[.slice (some ⟨b, off, none⟩) rs.length cap] w fun e w' => e = .returned (.bool true) ∧ Below w.heap.size w w' := by
  have C := few_any _ rs 30 w (by omega) hi
  rw [h] at C
  have C := Lib.hid C
  have hl := fewB_le h
  have R := recrow_any _ rs w hi (by omega)
  rw [rowVal_ok hok] at R
  have hBl := Rp.rowB_le rs hok
  have hrow := Rp.rows_row rs hok
  have HI := Lib.hid hi
  have HC := Lib.hid hc
  have HOK := Lib.hid hok
  have HN : Hid (∀ k, k < rs.length → (Rp.rowB (rs.take (k + 1))).length = (Rp.rowB (rs.take k)).length + (Rp.putB (rs.getD k Rp.zero)).length) := Lib.hid fun k hk => by
    rw [rowB_take hk, List.length_append, Rp.putB_yes (Rp.fault_zero (hok _ (getD_in hk)))]
  have HTL : Hid (∀ k, (Rp.rowB (rs.take k)).length ≤ 81 * k) := Lib.hid fun k => rowB_take_le fun r hr => hok r (List.mem_of_mem_take hr)
  have HALL : Hid (Rp.rowB (rs.take rs.length) = Rp.rowB rs) := Lib.hid (by rw [List.take_length])
  obtain ⟨B, hB⟩ : ∃ B, Rp.rowB rs = B := ⟨_, rfl⟩
  rw [hB] at R hBl hrow HALL
  have R := Lib.hid R
  have C1 := fun W : World => recrows_any ⟨B.toArray⟩ W (by rw [size_mk_list]; omega) (by rw [size_mk_list]; omega)
  unfold RowsOut at C1
  rw [show (⟨B.toArray⟩ : ByteArray).data.toList = B from rfl, hrow] at C1
  have C1 := Lib.hid C1
  obtain ⟨len, hlen⟩ : ∃ len, rs.length = len := ⟨_, rfl⟩
  rw [hlen] at HI HC HN HALL C R hl hBl ⊢
  have HL := Lib.hid hlen
  clear hlen hi h hok hc hB hrow
  go_enter Try.func5, Try.ntmps5
  go_wp2_with fail
  refine C.out.mono ?_
  rintro e w1 ⟨rfl, rfl⟩
  go_wp2_with fail
  refine R.out.mono ?_
  rintro e w1 ⟨rfl, b1⟩
  go_wp2_with fail
  go_loopw [5, 6] (fun n i wr => ∃ k : Nat, k ≤ len ∧ i = .int .i64 k ∧ n = .int .i64 ((Rp.rowB (rs.take k)).length : Int) ∧ Below w.heap.size w wr) (fun _ i _ => len - (intOf i).toNat)
  case atStart => exact ⟨0, Nat.zero_le _, rfl, rfl, b1⟩
  case round =>
    obtain ⟨k, hk, rfl, rfl, bel⟩ := hrel
    have htl := HTL.out k
    by_cases hlt : k < len
    · obtain ⟨c0, c1, c2⟩ := HC.out k hlt
      have hbb := block_lt_of_cell c0
      have z0 : wr.cell? ⟨b, off + k * 3, none⟩ = some (.int .i64 (rs.getD k Rp.zero).a) := by rw [bel.cell (p := ⟨b, off + k * 3, none⟩) hbb]; exact c0
      have z1 : wr.cell? ⟨b, off + k * 3 + 1, none⟩ = some (.int .i64 (rs.getD k Rp.zero).t) := by rw [bel.cell (p := ⟨b, off + k * 3 + 1, none⟩) hbb]; exact c1
      have z2 : wr.cell? ⟨b, off + k * 3 + 2, none⟩ = some (.string (rs.getD k Rp.zero).d) := by rw [bel.cell (p := ⟨b, off + k * 3 + 2, none⟩) hbb]; exact c2
      have hrk : Rp.Ok (rs.getD k Rp.zero) := HOK.out _ (getD_in (by rw [HL.out]; exact hlt))
      have HNK := Lib.hid (HN.out k hlt)
      clear c0 c1 c2
      generalize rs.getD k Rp.zero = r at *
      generalize (Rp.rowB (rs.take k)).length = m at *
      have D := fun W : World => right_any r W (by have := hrk.2.2.2.2; omega)
      rw [okB_yes (Rp.fault_zero hrk)] at D
      have S := fun W : World => recsize_any r W (by have := hrk.2.2.2.2; omega)
      have hpl := Rp.putB_le r
      generalize (Rp.putB r).length = p at *
      have D := Lib.hid D
      have S := Lib.hid S
      clear hrk
      unfold recVal at D S
      go_wp2_with fail
      refine (D.out _).mono ?_
      rintro e w2 ⟨rfl, b2⟩
      have y0 := keep1 z0 b2
      have y1 := keep1 z1 b2
      have y2 := keep1 z2 b2
      clear z0 z1 z2
      go_wp2_with fail
      refine (S.out _).mono ?_
      rintro e w3 ⟨rfl, b3⟩
      go_wp2_with fail
      go_roundw
      case rel => exact ⟨k + 1, by omega, by go_num, by rw [HNK.out]; go_num, bel_trans2 (bel_trans2 bel b2) b3⟩
      case measure => simp [intOf]; omega
    · have hk' : k = len := by omega
      subst hk'
      rw [HALL.out]
      have I2 := Lib.hid (HI.out.below bel (Nat.le_refl _))
      clear htl
      go_wp2_with fail
      refine (C1.out _).mono ?_
      rintro e w3 ⟨v3, rfl, i3, b3⟩
      have I3 := Lib.hid i3
      clear i3
      go_wp2_with fail
      refine (awake04 _).mono ?_
      rintro e w5 ⟨rfl, b5⟩
      go_wp2_with fail
      refine (recsame_yes _ v3 _ _ ((I2.out.below b3 (Nat.le_refl _)).below b5 (Nat.le_refl _)) (I3.out.below b5 (Nat.le_refl _))).mono ?_
      rintro e w6 ⟨rfl, n6, rfl⟩
      go_wp2_with fail
      go_ret
      exact ⟨rfl, bel_trans2 (bel_trans2 (bel_trans2 bel b3) b5) (below_drewN n6)⟩

set_option maxRecDepth 100000 in
set_option maxHeartbeats 1600000 in
theorem back4_bad (rs : List Rp.Rec) (b off cap : Nat) (w : World) (hi : IsRecs w (.slice (some ⟨b, off, none⟩) rs.length cap) rs) (h : fewB rs 30 = true) (hno : ¬ ∀ r ∈ rs, Rp.Ok r) (e0 : Int) (he : e0 = 5 ∨ e0 = 6) (hrow : Rp.row rs = ([], e0))
    (hs : ∀ r ∈ rs, RecOk r)
    (hc : ∀ i, i < rs.length → w.cell? ⟨b, off + i * 3, none⟩ = some (.int .i64 (rs.getD i Rp.zero).a) ∧ w.cell? ⟨b, off + i * 3 + 1, none⟩ = some (.int .i64 (rs.getD i Rp.zero).t) ∧ w.cell? ⟨b, off + i * 3 + 2, none⟩ = some (.string (rs.getD i Rp.zero).d)) :
    Calls Try.prog 5 #[.slice (some ⟨b, off, none⟩) rs.length cap] w fun e w' => e = .returned (.bool true) ∧ Below w.heap.size w w' := by
  have C := few_any _ rs 30 w (by omega) hi
  rw [h] at C
  have C := Lib.hid C
  have hl := fewB_le h
  have R := recrow_any _ rs w hi (by omega)
  unfold rowVal at R
  rw [hrow] at R
  have R : Calls Try.prog 18 #[.slice (some ⟨b, off, none⟩) rs.length cap] w fun e w' => e = .returned (.tuple #[.string ⟨#[]⟩, .int .i64 e0]) ∧ Below w.heap.size w w' := R
  have R := Lib.hid R
  have HC := Lib.hid hc
  have HS := Lib.hid hs
  have HNO := Lib.hid hno
  obtain ⟨len, hlen⟩ : ∃ len, rs.length = len := ⟨_, rfl⟩
  rw [hlen] at HC C R hl ⊢
  have HL := Lib.hid hlen
  clear hlen hi h hno hc hs hrow
  rcases he with rfl | rfl
  all_goals
    go_enter Try.func5, Try.ntmps5
    go_wp2_with fail
    refine C.out.mono ?_
    rintro e w1 ⟨rfl, rfl⟩
    go_wp2_with fail
    refine R.out.mono ?_
    rintro e w1 ⟨rfl, b1⟩
    go_wp2_with fail
    go_loopw [5, 6] (fun n i wr => ∃ k m : Nat, k ≤ len ∧ i = .int .i64 k ∧ n = .int .i64 (m : Int) ∧ m ≤ 81 * k ∧ (∀ r ∈ rs.take k, Rp.Ok r) ∧ Below w.heap.size w wr) (fun _ i _ => len - (intOf i).toNat)
    case atStart => exact ⟨0, 0, Nat.zero_le _, rfl, rfl, Nat.zero_le _, by simp, b1⟩
    case round =>
      obtain ⟨k, m, hk, rfl, rfl, hm, hok, bel⟩ := hrel
      have HO := Lib.hid hok
      clear hok
      by_cases hlt : k < len
      · obtain ⟨c0, c1, c2⟩ := HC.out k hlt
        have hbb := block_lt_of_cell c0
        have z0 : wr.cell? ⟨b, off + k * 3, none⟩ = some (.int .i64 (rs.getD k Rp.zero).a) := by rw [bel.cell (p := ⟨b, off + k * 3, none⟩) hbb]; exact c0
        have z1 : wr.cell? ⟨b, off + k * 3 + 1, none⟩ = some (.int .i64 (rs.getD k Rp.zero).t) := by rw [bel.cell (p := ⟨b, off + k * 3 + 1, none⟩) hbb]; exact c1
        have z2 : wr.cell? ⟨b, off + k * 3 + 2, none⟩ = some (.string (rs.getD k Rp.zero).d) := by rw [bel.cell (p := ⟨b, off + k * 3 + 2, none⟩) hbb]; exact c2
        have hlt' : k < rs.length := by rw [HL.out]; exact hlt
        have hd := (HS.out _ (getD_in hlt')).d1
        have HT := Lib.hid (ok_take hlt' HO.out)
        clear c0 c1 c2 hlt'
        generalize rs.getD k Rp.zero = r at *
        have D := fun W : World => right_any r W hd
        have S := fun W : World => recsize_any r W hd
        have hpl := Rp.putB_le r
        generalize (Rp.putB r).length = p at *
        have S := Lib.hid S
        by_cases hrk : Rp.Ok r
        · rw [okB_yes (Rp.fault_zero hrk)] at D
          have HT2 := Lib.hid (HT.out hrk)
          have D := Lib.hid D
          clear hrk
          unfold recVal at D S
          go_wp2_with fail
          refine (D.out _).mono ?_
          rintro e w2 ⟨rfl, b2⟩
          have y0 := keep1 z0 b2
          have y1 := keep1 z1 b2
          have y2 := keep1 z2 b2
          clear z0 z1 z2
          go_wp2_with fail
          refine (S.out _).mono ?_
          rintro e w3 ⟨rfl, b3⟩
          go_wp2_with fail
          go_roundw
          case rel => exact ⟨k + 1, m + p, by omega, by go_num, by go_num, by omega, HT2.out, bel_trans2 (bel_trans2 bel b2) b3⟩
          case measure => simp [intOf]; omega
        · rw [okB_no (Rp.fault_pos hrk)] at D
          have D := Lib.hid D
          clear hrk
          unfold recVal at D
          go_wp2_with fail
          refine (D.out _).mono ?_
          rintro e w2 ⟨rfl, b2⟩
          go_wp2_with fail
          refine (awake04 _).mono ?_
          rintro e w5 ⟨rfl, b5⟩
          go_wp2_with fail
          go_ret
          exact ⟨rfl, bel_trans2 (bel_trans2 bel b2) b5⟩
      · exact absurd (by
          have h := HO.out
          rwa [List.take_of_length_le (by rw [HL.out]; omega)] at h) HNO.out

theorem back4 (v : Value) (rs : List Rp.Rec) (w : World) (hi : IsRecs w v rs) :
    Calls Try.prog 5 #[v] w fun e w' => e = .returned (.bool true) ∧ Below w.heap.size w w' := by
  rcases h : fewB rs 30 with _ | _
  · exact back4_many v rs w hi h
  · obtain ⟨a, cap, rfl, h1, h2, h3⟩ := id hi
    rcases h3 with rfl | ⟨b, off, rfl, h4⟩
    · exact back4_none a cap w
    · rcases row_cases rs with ⟨hok, _⟩ | ⟨hno, e, he, hrow⟩
      · exact back4_ok rs b off cap w hi h hok h4
      · exact back4_bad rs b off cap w hi h hno e he hrow h2 h4

end Go.Proofs.Ytjcokcnlbofbkaa

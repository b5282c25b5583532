/-
  What the document's Rows answers; nothing that was there is changed.
-/
import Derived.Test.YtjcokcnlbofbkaaRecRows
namespace Go.Proofs.Ytjcokcnlbofbkaa
open Go.RowKit

set_option maxRecDepth 100000 in
set_option maxHeartbeats 1600000 in
theorem rrecrows_any (s : ByteArray) (w : World) (hs : s.size ≤ 140737488351232) (hs' : s.size ≤ 4398046511104) :
    Calls Try.prog 21 #[.string s] w (RowsOut w s.data.toList) := by
  have hL : s.data.toList.length = s.size := rfl
  have HL := Lib.hid hL
  clear hL
  obtain ⟨i0, hi, hz0, hz1, hz2⟩ := info_parts info_rec
  go_enter Try.func21, Try.ntmps21
  go_wp2_with fail
  go_loopw [5, 6] (fun v a wr => ∃ (rs : List Rp.Rec) (k : Nat), k ≤ s.size ∧ a = .int .i64 k ∧ wr.ownsRow w.heap.size 23 3 v rs.length (recVals rs) ∧ Rp.RowsRel s.data.toList rs k ∧ rs.length ≤ k ∧ (∀ r ∈ rs, Rp.Ok r) ∧ Below w.heap.size w wr)
    (fun _ a _ => s.size - (intOf a).toNat)
  case atStart => exact ⟨[], 0, Nat.zero_le _, rfl, World.ownsRow_nil _ _ _ _, Rp.RowsRel.start _, Nat.zero_le _, by simp, Below.refl _ _⟩
  case round =>
    obtain ⟨rs, k, hk, rfl, hown, hr, hlen, hsh, hb⟩ := hrel
    have HR := Lib.hid hr
    have HSH := Lib.hid hsh
    clear hr hsh
    by_cases hlt : k < s.size
    · have C := fun W : World => rfnext_any s (k : Int) W hs
      rw [nxAt_in] at C
      rcases Fr.nx_cases (s.data.toList.drop k) with ⟨er, he, h3⟩ | ⟨j, b, he, h5, h6, h7, h8⟩
      · rw [nxVal_no he (by omega)] at C
        have HV := Lib.hid (HR.out.stop (by rw [HL.out]; exact hlt) (Rp.nxt_no he (by omega)) (by omega))
        have C := Lib.hid C
        clear he
        rcases h3 with rfl | rfl | rfl
        all_goals
          go_wp2_with fail
          refine (C.out _).mono ?_
          rintro e w1 ⟨rfl, b1⟩
          have b01 := hb.trans (b1.mono hb.size)
          have hown1 := own_below hown b1
          have HF := Lib.hid (RowsOut.mk HV.out (IsRecs.own hown1 (by unfold maxLen; omega) HSH.out) b01)
          clear hown1
          go_wp2_with fail
          go_ret3
          exact HF.out
      · rw [nxVal_yes he] at C
        obtain ⟨q, hq⟩ : ∃ q, k + j = q := ⟨_, rfl⟩
        rw [hq] at C
        have C := Lib.hid C
        have hbl : b.length ≤ 9223372036854775807 := by have := h7.2; omega
        have D := fun W : World => rget_any ⟨b.toArray⟩ W (by rw [size_mk_list]; exact hbl)
        rw [show (⟨b.toArray⟩ : ByteArray).data.toList = b from rfl] at D
        rcases Rp.get_cases b with ⟨er, hg, h3⟩ | ⟨r, hg, hok, hbd⟩
        · rw [getVal_no hg] at D
          have HV := Lib.hid (HR.out.stop (by rw [HL.out]; exact hlt) (Rp.nxt_bad he hg (by omega)) (by omega))
          have D := Lib.hid D
          clear he hg h5 h6 h7 h8 hq hbl
          rcases h3 with rfl | rfl | rfl
          all_goals
            go_wp2_with fail
            refine (C.out _).mono ?_
            rintro e w1 ⟨rfl, b1⟩
            go_wp2_with fail
            refine (D.out _).mono ?_
            rintro e w2 ⟨rfl, b2⟩
            have b12 := bel_trans2 b1 b2
            have b01 := hb.trans (b12.mono hb.size)
            have b02 := b01.alloc b01.size (.cells #[.int .i64 0, .int .i64 0, .string ⟨#[]⟩] 23)
            have hown1 := (own_below hown b12).alloc (.cells #[.int .i64 0, .int .i64 0, .string ⟨#[]⟩] 23)
            have HF := Lib.hid (RowsOut.mk HV.out (IsRecs.own hown1 (by unfold maxLen; omega) HSH.out) b02)
            clear hown1 b02 b12 b01
            go_wp2_with fail
            go_ret3
            exact HF.out
        · rw [getVal_yes hg] at D
          rw [List.length_drop, HL.out] at h6
          have hst := HR.out.step (Rp.nxt_yes he hg) (by omega) (by rw [List.length_drop, HL.out]; omega)
          rw [hq] at hst
          have HV := Lib.hid hst
          have HSN := Lib.hid (okAll_snoc HSH.out hok)
          have hq2 : q ≤ s.size := by omega
          have hq3 : rs.length + 1 ≤ q := by omega
          have hq4 : k < q := by omega
          unfold recVal at D
          have D := Lib.hid D
          clear he hg hok hst h5 h6 h7 h8 hq hbl hbd
          go_wp2_with fail
          refine (C.out _).mono ?_
          rintro e w1 ⟨rfl, b1⟩
          go_wp2_with fail
          refine (D.out _).mono ?_
          rintro e w2 ⟨rfl, b2⟩
          have b12 := bel_trans2 b1 b2
          have b01 := hb.trans (b12.mono hb.size)
          have hown1 := own_below hown b12
          clear b12 b1 b2
          go_wp2_with (at_builtin; refine wpList_append_own _ rfl _ _ 33 rfl w.heap.size 23 i0 (.agg #[.int .i64 0, .int .i64 0, .string ByteArray.empty]) 3 32 Try.underlying33 hi hz0 hz1 hz2 rfl (by decide) _ _ _ rfl ((hown1.alloc _).alloc _) ⟨w2.heap.size + 1, 0, none⟩ 1 1 [.int .i64 r.a, .int .i64 r.t, .string r.d] (by simp [go_sem]) rfl (news_two _ _ _ _ _ _) (by simp [Value.oneCell']) (by unfold maxLen; omega) (by omega) (by simp; have := b01.size; omega) ?_; intro v' w3 hown' hgrow3 hnil3)
          go_roundw
          case rel =>
            exact ⟨rs ++ [r], q, hq2, rfl, own_rec_snoc hown', HV.out, by rw [List.length_append]; exact hq3, HSN.out, ((b01.alloc b01.size _).alloc (by simp; have := b01.size; omega) _).grown hgrow3 (by simp; have := b01.size; omega) (fun p hp => (hown1.lt p hp).1)⟩
          case measure =>
            simp [intOf]; omega
    · have HV := Lib.hid (HR.out.done (by rw [HL.out]; omega))
      have HF := Lib.hid (RowsOut.mk HV.out (IsRecs.own hown (by unfold maxLen; omega) HSH.out) hb)
      go_wp2_with fail
      go_ret3
      exact HF.out

end Go.Proofs.Ytjcokcnlbofbkaa

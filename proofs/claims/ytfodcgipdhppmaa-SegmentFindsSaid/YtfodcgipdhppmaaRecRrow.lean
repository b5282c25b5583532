/-
  What the document's Row answers; nothing that was there is changed.
-/
import Derived.Test.YtfodcgipdhppmaaRecRow
namespace Go.Proofs.Ytfodcgipdhppmaa
open Go.RowKit

/-- What the document's loop keeps. -/
def RowR (w : World) (rs : List Rp.Rec) (k : Nat) (x : Value) (wr : World) : Prop :=
  x = .string ⟨(Rp.rowB (rs.take k)).toArray⟩ ∧ (∀ r ∈ rs.take k, Rp.Ok r) ∧ Below w.heap.size w wr

set_option maxRecDepth 100000 in
set_option maxHeartbeats 1600000 in
theorem rrecrow_some (rs : List Rp.Rec) (b off cap : Nat) (w : World) (hl : rs.length ≤ 1000000000000) (hs : ∀ r ∈ rs, RecOk r)
    (hc : ∀ i, i < rs.length → w.cell? ⟨b, off + i * 3, none⟩ = some (.int .i64 (rs.getD i Rp.zero).a) ∧ w.cell? ⟨b, off + i * 3 + 1, none⟩ = some (.int .i64 (rs.getD i Rp.zero).t) ∧ w.cell? ⟨b, off + i * 3 + 2, none⟩ = some (.string (rs.getD i Rp.zero).d)) :
    Calls Try.prog 17 #[.slice (some ⟨b, off, none⟩) rs.length cap] w fun e w' => e = .returned (rowVal rs) ∧ Below w.heap.size w w' := by
  have HS := Lib.hid hs
  have HC := Lib.hid hc
  have HLL := Lib.hid hl
  have HV := Lib.hid (@rowVal_ok rs)
  have HX := Lib.hid fun (k : Nat) (e : Int) => @rowVal_bad rs k e
  clear hs hc hl
  obtain ⟨len, hlen⟩ : ∃ len, rs.length = len := ⟨_, rfl⟩
  rw [hlen] at HC HLL ⊢
  have HL := Lib.hid hlen
  clear hlen
  have hl := HLL.out
  generalize rowVal rs = V at *
  go_enter Try.func17, Try.ntmps17
  go_wp2_with fail
  go_loopw [4, 5] (fun x i wr => ∃ k : Nat, k ≤ len ∧ i = .int .i64 k ∧ RowR w rs k x wr) (fun _ i _ => len - (intOf i).toNat)
  case atStart => exact ⟨0, Nat.zero_le _, rfl, rfl, by simp, Below.refl _ _⟩
  case round =>
    obtain ⟨k, hk, rfl, rfl, hr1, bel⟩ := hrel
    have HR := Lib.hid hr1
    clear hr1
    by_cases hlt : k < len
    · have hlt' : k < rs.length := by rw [HL.out]; exact hlt
      obtain ⟨c0, c1, c2⟩ := HC.out k hlt
      have hbb := block_lt_of_cell c0
      have z0 : wr.cell? ⟨b, off + k * 3, none⟩ = some (.int .i64 (rs.getD k Rp.zero).a) := by rw [bel.cell (p := ⟨b, off + k * 3, none⟩) hbb]; exact c0
      have z1 : wr.cell? ⟨b, off + k * 3 + 1, none⟩ = some (.int .i64 (rs.getD k Rp.zero).t) := by rw [bel.cell (p := ⟨b, off + k * 3 + 1, none⟩) hbb]; exact c1
      have z2 : wr.cell? ⟨b, off + k * 3 + 2, none⟩ = some (.string (rs.getD k Rp.zero).d) := by rw [bel.cell (p := ⟨b, off + k * 3 + 2, none⟩) hbb]; exact c2
      clear c0 c1 c2
      have hd := (HS.out _ (getD_in hlt')).d1
      have HT := Lib.hid (rowB_take hlt')
      have HO := Lib.hid (ok_take hlt' HR.out)
      have HBAD := Lib.hid fun e => HX.out k e hlt' HR.out
      clear hlt'
      generalize rs.getD k Rp.zero = r at *
      have P := fun W : World => rrecput_any r W hd
      have hRl := rowB_take_le HR.out
      rcases putVal_cases r with ⟨hok, hv⟩ | ⟨hno, e0, he, hf, hv⟩
      · rw [hv] at P
        have hfl := Rp.fr_le hok
        have hbl := Rp.body_le hok
        have HT2 := Lib.hid (HO.out hok)
        generalize Fr.fr (Rp.body r) = f at *
        generalize Rp.rowB (rs.take k) = R at *
        have s1 : ¬ 9223372036854775807 < R.length + f.length := by omega
        have P := Lib.hid P
        clear hv hok hRl hfl hbl
        unfold recVal at P
        go_wp2_with fail
        refine (P.out _).mono ?_
        rintro e w2 ⟨rfl, b2⟩
        have b02 := bel_trans2 bel b2
        go_wp2_with fail
        go_roundw
        case rel => exact ⟨k + 1, by omega, by go_num, by rw [HT.out]; exact congrArg Value.string (ByteArray.mk_append_mk R f), HT2.out, b02⟩
        case measure => simp [intOf]; omega
      · rw [hv] at P
        have HF := Lib.hid (HBAD.out e0 hno hf)
        generalize Rp.rowB (rs.take k) = R at *
        have P := Lib.hid P
        clear hv hno hf hRl
        unfold recVal at P
        rcases he with rfl | rfl
        all_goals
          go_wp2_with fail
          refine (P.out _).mono ?_
          rintro e w2 ⟨rfl, b2⟩
          go_wp2_with fail
          go_ret2
          exact ⟨by rw [HF.out]; rfl, bel_trans2 bel b2⟩
    · have hk' : k = len := by omega
      subst hk'
      have hall : rs.take k = rs := List.take_of_length_le (by rw [HL.out]; exact Nat.le_refl _)
      have HF := Lib.hid (HV.out (by have := HR.out; rwa [hall] at this))
      rw [hall]
      clear hall
      generalize Rp.rowB rs = R at *
      go_wp2_with fail
      go_ret2
      exact ⟨by rw [HF.out]; rfl, bel⟩

set_option maxRecDepth 100000 in
set_option maxHeartbeats 800000 in
theorem rrecrow_none (a : Option Addr) (cap : Nat) (w : World) :
    Calls Try.prog 17 #[.slice a 0 cap] w fun e w' => e = .returned (rowVal []) ∧ Below w.heap.size w w' := by
  go_enter Try.func17, Try.ntmps17
  go_wp2_with fail
  refine wp_loop_rounds 1 ?_
  rw [rounds_succ]
  go_wp2_with fail
  go_ret2
  exact ⟨rfl, Below.refl _ _⟩

/-- The document's Row, of whatever records. -/
theorem rrecrow_any (v : Value) (rs : List Rp.Rec) (w : World) (h : IsRecs w v rs) (hl : rs.length ≤ 1000000000000) :
    Calls Try.prog 17 #[v] w fun e w' => e = .returned (rowVal rs) ∧ Below w.heap.size w w' := by
  obtain ⟨a, cap, rfl, _, h2, h3⟩ := h
  rcases h3 with rfl | ⟨b, off, rfl, h4⟩
  · exact rrecrow_none a cap w
  · exact rrecrow_some rs b off cap w hl h2 h4

end Go.Proofs.Ytfodcgipdhppmaa

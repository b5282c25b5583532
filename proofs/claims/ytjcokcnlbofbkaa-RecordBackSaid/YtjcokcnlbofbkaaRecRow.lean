/-
  What record's Row and the document's answer; nothing that was there is changed.
-/
import Derived.Test.YtjcokcnlbofbkaaRecRef
import Derived.Test.YtjcokcnlbofbkaaRecOpen
import Derived.Test.YtjcokcnlbofbkaaBuilder
namespace Go.Proofs.Ytjcokcnlbofbkaa
open Go.RowKit

/-- What Row answers. -/
def rowVal (rs : List Rp.Rec) : Value := .tuple #[.string ⟨(Rp.row rs).1.toArray⟩, .int .i64 (Rp.row rs).2]
theorem rowVal_ok {rs : List Rp.Rec} (h : ∀ r ∈ rs, Rp.Ok r) : rowVal rs = .tuple #[.string ⟨(Rp.rowB rs).toArray⟩, .int .i64 0] := by
  unfold rowVal
  rw [Rp.row_ok rs h]
theorem getD_eq {rs : List Rp.Rec} {k : Nat} (h : k < rs.length) : rs.getD k Rp.zero = rs[k] := by simp [List.getD_eq_getElem?_getD, h]
theorem getD_in {rs : List Rp.Rec} {k : Nat} (h : k < rs.length) : rs.getD k Rp.zero ∈ rs := by rw [getD_eq h]; exact List.getElem_mem _
theorem rowVal_bad {rs : List Rp.Rec} {k : Nat} {e : Int} (hk : k < rs.length) (h : ∀ r ∈ rs.take k, Rp.Ok r) (hr : ¬ Rp.Ok (rs.getD k Rp.zero)) (he : Rp.fault (rs.getD k Rp.zero) = e) : rowVal rs = .tuple #[.string ⟨#[]⟩, .int .i64 e] := by
  have h1 := Rp.row_bad (rs.take k) (rs.getD k Rp.zero) (rs.drop (k + 1)) h hr
  have h2 : rs.take k ++ rs.getD k Rp.zero :: rs.drop (k + 1) = rs := by rw [getD_eq hk, ← List.drop_eq_getElem_cons hk, List.take_append_drop]
  rw [h2] at h1
  unfold rowVal
  rw [h1, he]
theorem rowB_take {rs : List Rp.Rec} {k : Nat} (hk : k < rs.length) : Rp.rowB (rs.take (k + 1)) = Rp.rowB (rs.take k) ++ Fr.fr (Rp.body (rs.getD k Rp.zero)) := by
  rw [List.take_succ_eq_append_getElem hk, Rp.rowB_snoc, getD_eq hk]
theorem ok_take {rs : List Rp.Rec} {k : Nat} (hk : k < rs.length) (h : ∀ r ∈ rs.take k, Rp.Ok r) (h1 : Rp.Ok (rs.getD k Rp.zero)) : ∀ r ∈ rs.take (k + 1), Rp.Ok r := by
  intro r hr
  rw [List.take_succ_eq_append_getElem hk] at hr
  rcases List.mem_append.1 hr with hr | hr
  · exact h r hr
  · rw [List.mem_singleton] at hr; rw [hr, ← getD_eq hk]; exact h1
theorem rowB_take_le {rs : List Rp.Rec} {k : Nat} (h : ∀ r ∈ rs.take k, Rp.Ok r) : (Rp.rowB (rs.take k)).length ≤ 81 * k := by
  have h1 := Rp.rowB_le (rs.take k) h
  have h2 : (rs.take k).length ≤ k := List.length_take_le _ _
  omega

/-- What the loop keeps: so many of the records' frames, in the builder. -/
def RowIn (w : World) (rs : List Rp.Rec) (k : Nat) (wr : World) : Prop :=
  Built w.heap.size w.heap.size (Rp.rowB (rs.take k)) wr ∧ (∀ r ∈ rs.take k, Rp.Ok r) ∧ Below w.heap.size w wr

set_option maxRecDepth 100000 in
set_option maxHeartbeats 1600000 in
theorem recrow_some (rs : List Rp.Rec) (b off cap : Nat) (w : World) (hl : rs.length ≤ 1000000000000) (hs : ∀ r ∈ rs, RecOk r)
    (hc : ∀ i, i < rs.length → w.cell? ⟨b, off + i * 3, none⟩ = some (.int .i64 (rs.getD i Rp.zero).a) ∧ w.cell? ⟨b, off + i * 3 + 1, none⟩ = some (.int .i64 (rs.getD i Rp.zero).t) ∧ w.cell? ⟨b, off + i * 3 + 2, none⟩ = some (.string (rs.getD i Rp.zero).d)) :
    Calls Try.prog 18 #[.slice (some ⟨b, off, none⟩) rs.length cap] w fun e w' => e = .returned (rowVal rs) ∧ Below w.heap.size w w' := by
  have HS := Lib.hid hs
  have HC := Lib.hid hc
  have HLL := Lib.hid hl
  have HV := Lib.hid (@rowVal_ok rs)
  have HX := Lib.hid fun (k : Nat) (e : Int) => @rowVal_bad rs k e
  clear hs hc hl
  obtain ⟨len, hlen⟩ : ∃ len, rs.length = len := ⟨_, rfl⟩
  rw [hlen] at HC HLL ⊢
  have HL := Lib.hid hlen
  clear hlen
  have hl := HLL.out
  generalize rowVal rs = V at *
  go_enter Try.func18, Try.ntmps18
  go_wp2_with fail
  have hin : RowIn w rs 0 (w.alloc (.cells #[.pointer none, .slice none 0 0] 56)) := ⟨Built.new w, by simp, (Below.refl _ _).alloc (Nat.le_refl _) _⟩
  generalize World.alloc w _ = w1 at hin ⊢
  go_loopw [11] (fun i wr => ∃ k : Nat, k ≤ len ∧ i = .int .i64 k ∧ RowIn w rs k wr) (fun i _ => len - (intOf i).toNat)
  case atStart => exact ⟨0, Nat.zero_le _, rfl, hin⟩
  case round =>
    obtain ⟨k, hk, rfl, hr⟩ := hrel
    have HR := Lib.hid hr
    clear hr
    by_cases hlt : k < len
    · have hlt' : k < rs.length := by rw [HL.out]; exact hlt
      obtain ⟨c0, c1, c2⟩ := HC.out k hlt
      have hbb := block_lt_of_cell c0
      have bel := HR.out.2.2
      have z0 : wr.cell? ⟨b, off + k * 3, none⟩ = some (.int .i64 (rs.getD k Rp.zero).a) := by rw [bel.cell (p := ⟨b, off + k * 3, none⟩) hbb]; exact c0
      have z1 : wr.cell? ⟨b, off + k * 3 + 1, none⟩ = some (.int .i64 (rs.getD k Rp.zero).t) := by rw [bel.cell (p := ⟨b, off + k * 3 + 1, none⟩) hbb]; exact c1
      have z2 : wr.cell? ⟨b, off + k * 3 + 2, none⟩ = some (.string (rs.getD k Rp.zero).d) := by rw [bel.cell (p := ⟨b, off + k * 3 + 2, none⟩) hbb]; exact c2
      clear c0 c1 c2
      have hd := (HS.out _ (getD_in hlt')).d1
      have HT := Lib.hid (rowB_take hlt')
      have HO := Lib.hid (ok_take hlt' HR.out.2.1)
      have HBAD := Lib.hid fun e => HX.out k e hlt' HR.out.2.1
      clear hlt'
      generalize rs.getD k Rp.zero = r at *
      have P := fun W : World => recput_any r W hd
      have hb' := HR.out.1
      have HB := Lib.hid hb'
      have hRl := rowB_take_le HR.out.2.1
      clear hb'
      rcases putVal_cases r with ⟨hok, hv⟩ | ⟨hno, e0, he, hf, hv⟩
      · rw [hv] at P
        have hfl := Rp.fr_le hok
        have hbl := Rp.body_le hok
        have HT2 := Lib.hid (HO.out hok)
        generalize Fr.fr (Rp.body r) = f at *
        generalize Rp.rowB (rs.take k) = R at *
        have HFL := Lib.hid (show R.length + (⟨f.toArray⟩ : ByteArray).size ≤ 140737488355328 by rw [size_mk_list]; have := HLL.out; omega)
        have P := Lib.hid P
        clear hv hok hRl hfl hbl
        unfold recVal at P
        go_wp2_with fail
        refine (P.out _).mono ?_
        rintro e w2 ⟨rfl, b2⟩
        have b2' := bel_of_alloc b2
        have HB2 := Lib.hid (HB.out.below b2')
        have b02 := bel_trans2 bel b2'
        go_wp2_with fail
        refine (write_any _ _ _ _ _ HB2.out HFL.out b02.size).mono ?_
        rintro e w3 ⟨rfl, hb3, b3⟩
        have HB3 := Lib.hid hb3
        clear hb3
        go_wp2_with fail
        go_roundw
        case rel => exact ⟨k + 1, by omega, by go_num, by rw [HT.out]; exact HB3.out, HT2.out, b02.trans b3⟩
        case measure => simp [intOf]; omega
      · rw [hv] at P
        have HF := Lib.hid (HBAD.out e0 hno hf)
        have P := Lib.hid P
        clear hv hno hf
        unfold recVal at P
        rcases he with rfl | rfl
        all_goals
          go_wp2_with fail
          refine (P.out _).mono ?_
          rintro e w2 ⟨rfl, b2⟩
          have b2' := bel_of_alloc b2
          have b02 := bel_trans2 bel b2'
          go_wp2_with fail
          go_ret2
          exact ⟨by rw [HF.out]; rfl, b02⟩
    · have hk' : k = len := by omega
      subst hk'
      have hall : rs.take k = rs := List.take_of_length_le (by rw [HL.out]; exact Nat.le_refl _)
      have HF := Lib.hid (HV.out (by have := HR.out.2.1; rwa [hall] at this))
      have hb' := HR.out.1
      have bel := HR.out.2.2
      rw [hall] at hb'
      have HB := Lib.hid hb'
      clear hall hb'
      generalize Rp.rowB rs = R at *
      go_wp2_with fail
      refine (Try.Builder_String_any _ _ _ _ HB.out bel.size).mono ?_
      rintro e w3 ⟨rfl, b3⟩
      go_wp2_with fail
      go_ret2
      exact ⟨by rw [HF.out]; rfl, bel.trans b3⟩

set_option maxRecDepth 100000 in
set_option maxHeartbeats 800000 in
theorem recrow_none (a : Option Addr) (cap : Nat) (w : World) :
    Calls Try.prog 18 #[.slice a 0 cap] w fun e w' => e = .returned (rowVal []) ∧ Below w.heap.size w w' := by
  go_enter Try.func18, Try.ntmps18
  go_wp2_with fail
  have HB := Lib.hid (Built.new w)
  have bel : Below w.heap.size w (w.alloc (.cells #[.pointer none, .slice none 0 0] 56)) := (Below.refl _ _).alloc (Nat.le_refl _) _
  generalize World.alloc w _ = w1 at HB bel ⊢
  refine wp_loop_rounds 1 ?_
  rw [rounds_succ]
  go_wp2_with fail
  refine (Try.Builder_String_any _ _ _ _ HB.out bel.size).mono ?_
  rintro e w3 ⟨rfl, b3⟩
  go_wp2_with fail
  go_ret2
  exact ⟨rfl, bel.trans b3⟩

/-- record's Row, of whatever records. -/
theorem recrow_any (v : Value) (rs : List Rp.Rec) (w : World) (h : IsRecs w v rs) (hl : rs.length ≤ 1000000000000) :
    Calls Try.prog 18 #[v] w fun e w' => e = .returned (rowVal rs) ∧ Below w.heap.size w w' := by
  obtain ⟨a, cap, rfl, _, h2, h3⟩ := h
  rcases h3 with rfl | ⟨b, off, rfl, h4⟩
  · exact recrow_none a cap w
  · exact recrow_some rs b off cap w hl h2 h4

end Go.Proofs.Ytjcokcnlbofbkaa

/-
  What the two Rows functions answer; nothing that was there is changed.
-/
import Derived.Test.YtjcokcnlbofbkaaRecNext
import Derived.Test.YtjcokcnlbofbkaaRecOpen
import Derived.Test.YtjcokcnlbofbkaaFrameAlls
import Derived.Test.YtjcokcnlbofbkaaFrameRnext
import Derived.Lib.Builder
namespace Go.Proofs.Ytjcokcnlbofbkaa
open Go.RowKit

/-- Records as cells. -/
def recVals (rs : List Rp.Rec) : List Value := rs.flatMap fun r => [.int .i64 r.a, .int .i64 r.t, .string r.d]
theorem recVals_len (rs : List Rp.Rec) : (recVals rs).length = rs.length * 3 := by
  induction rs with
  | nil => rfl
  | cons r rs ih => simp [recVals] at ih ⊢; omega
theorem recVals_snoc (rs : List Rp.Rec) (r : Rp.Rec) : recVals (rs ++ [r]) = recVals rs ++ [.int .i64 r.a, .int .i64 r.t, .string r.d] := by simp [recVals]
theorem recVals_get (rs : List Rp.Rec) : ∀ i, i < rs.length → (recVals rs)[i * 3]? = some (.int .i64 (rs.getD i Rp.zero).a) ∧ (recVals rs)[i * 3 + 1]? = some (.int .i64 (rs.getD i Rp.zero).t) ∧ (recVals rs)[i * 3 + 2]? = some (.string (rs.getD i Rp.zero).d) := by
  induction rs with
  | nil => intro i hi; simp at hi
  | cons r rs ih =>
    intro i hi
    have e : recVals (r :: rs) = .int .i64 r.a :: .int .i64 r.t :: .string r.d :: recVals rs := rfl
    rw [e]
    cases i with
    | zero => exact ⟨rfl, rfl, rfl⟩
    | succ i =>
      have h := ih i (by simpa using hi)
      rw [show (i + 1) * 3 = i * 3 + 3 from by omega]
      simpa using h

theorem info_rec : (Try.prog.info? 23).map (fun i => (i.zero, i.size, i.bytes)) = some (some (.agg #[.int .i64 0, .int .i64 0, .string ByteArray.empty]), 3, 32) := by kernel_rfl

theorem RecOk.of {r : Rp.Rec} (h : Rp.Ok r) : RecOk r := ⟨by have := h.1; omega, by have := h.2.1; omega, by have := h.2.2.1; omega, by have := h.2.2.2.1; omega, by have := h.2.2.2.2; omega⟩
theorem IsRecs.own {w : World} {base n : Nat} {v : Value} {rs : List Rp.Rec} (h : w.ownsRow base 23 3 v n (recVals rs)) (hm : n ≤ maxLen) (hb : ∀ r ∈ rs, Rp.Ok r) : IsRecs w v rs := by
  have hn : n = rs.length := by have := h.1; rw [recVals_len] at this; omega
  subst hn
  rcases h.2 with ⟨rfl, h0⟩ | ⟨g, cap, cur, rfl, h1⟩
  · have : rs = [] := by simpa using h0
    subst this
    exact IsRecs.nil w none 0
  · refine ⟨some ⟨g, 0, none⟩, cap, rfl, hm, fun r hr => RecOk.of (hb r hr), .inr ⟨g, 0, rfl, fun i hi => ?_⟩⟩
    obtain ⟨c0, c1, c2⟩ := recVals_get rs i hi
    have k0 := h.cells (g := g) rfl _ _ c0
    have k1 := h.cells (g := g) rfl _ _ c1
    have k2 := h.cells (g := g) rfl _ _ c2
    rw [add_plain] at k0 k1 k2
    exact ⟨k0, k1, k2⟩

/-- What Rows answers: the records, how far they go, why there is no more. -/
def RowsOut (w : World) (l : List UInt8) (e : Ending) (w' : World) : Prop :=
  ∃ v, e = .returned (.tuple #[v, .int .i64 ((Rp.rows l).2.1 : Nat), .int .i64 (Rp.rows l).2.2]) ∧ IsRecs w' v (Rp.rows l).1 ∧ Below w.heap.size w w'
theorem RowsOut.mk {w w' : World} {l : List UInt8} {rs : List Rp.Rec} {k : Nat} {er : Int} {v : Value} (h : Rp.rows l = (rs, k, er)) (hv : IsRecs w' v rs) (hb : Below w.heap.size w w') :
    RowsOut w l (.returned (.tuple #[v, .int .i64 (k : Int), .int .i64 er])) w' := by
  unfold RowsOut
  rw [h]
  exact ⟨v, rfl, hv, hb⟩

theorem own_rec_snoc {w : World} {base : Nat} {v : Value} {rs : List Rp.Rec} {r : Rp.Rec} (h : w.ownsRow base 23 3 v (rs.length + 1) (recVals rs ++ [.int .i64 r.a, .int .i64 r.t, .string r.d])) :
    w.ownsRow base 23 3 v (rs ++ [r]).length (recVals (rs ++ [r])) := by
  rw [recVals_snoc, List.length_append]
  exact h
theorem okAll_snoc {rs : List Rp.Rec} {r : Rp.Rec} (h : ∀ x ∈ rs, Rp.Ok x) (hr : Rp.Ok r) : ∀ x ∈ rs ++ [r], Rp.Ok x := by
  intro x hx
  rcases List.mem_append.1 hx with h1 | h1
  · exact h x h1
  · rw [List.mem_singleton] at h1; subst h1; exact hr

/-- The cells of a record that was just laid, behind another block. -/
theorem news_two (w : World) (o : Obj) (a b c : Value) (T : TypeId) : ∀ (j : Nat) (u : Value), [a, b, c][j]? = some u → ((w.alloc o).alloc (.cells #[a, b, c] T)).cell? ((⟨w.heap.size + 1, 0, none⟩ : Addr).add j) = some u := by
  intro j u h
  have hh : ((w.alloc o).alloc (.cells #[a, b, c] T)).heap[w.heap.size + 1]? = some (.cells #[a, b, c] T (0, 0)) := by
    have := heap_alloc_new (w.alloc o) (.cells #[a, b, c] T)
    simpa using this
  rw [add_plain, Lib.cell_of_heap hh]
  simpa using h

set_option maxRecDepth 100000 in
set_option maxHeartbeats 1600000 in
theorem recrows_any (s : ByteArray) (w : World) (hs : s.size ≤ 140737488351232) (hs' : s.size ≤ 4398046511104) :
    Calls Try.prog 20 #[.string s] w (RowsOut w s.data.toList) := by
  have hL : s.data.toList.length = s.size := rfl
  have HL := Lib.hid hL
  clear hL
  obtain ⟨i0, hi, hz0, hz1, hz2⟩ := info_parts info_rec
  go_enter Try.func20, Try.ntmps20
  go_wp2_with fail
  go_loopw [5, 6] (fun v a wr => ∃ (rs : List Rp.Rec) (k : Nat), k ≤ s.size ∧ a = .int .i64 k ∧ wr.ownsRow w.heap.size 23 3 v rs.length (recVals rs) ∧ Rp.RowsRel s.data.toList rs k ∧ rs.length ≤ k ∧ (∀ r ∈ rs, Rp.Ok r) ∧ Below w.heap.size w wr)
    (fun _ a _ => s.size - (intOf a).toNat)
  case atStart => exact ⟨[], 0, Nat.zero_le _, rfl, World.ownsRow_nil _ _ _ _, Rp.RowsRel.start _, Nat.zero_le _, by simp, Below.refl _ _⟩
  case round =>
    obtain ⟨rs, k, hk, rfl, hown, hr, hlen, hsh, hb⟩ := hrel
    have HR := Lib.hid hr
    have HSH := Lib.hid hsh
    clear hr hsh
    by_cases hlt : k < s.size
    · have C := fun W : World => next_any s k W hs
      rcases Rp.nxt_cases (s.data.toList.drop k) with ⟨er, he, h3⟩ | ⟨r, j, he, hok, h5, h6, _⟩
      · rw [nextVal_no he (by omega)] at C
        have HV := Lib.hid (HR.out.stop (by rw [HL.out]; exact hlt) he (by omega))
        have C := Lib.hid C
        clear he
        rcases h3 with rfl | rfl | rfl | rfl | rfl
        all_goals
          go_wp2_with fail
          refine (C.out _).mono ?_
          rintro e w1 ⟨rfl, b1⟩
          have b01 := (hb.trans (b1.mono hb.size))
          have b02 := b01.alloc b01.size (.cells #[.int .i64 0, .int .i64 0, .string ⟨#[]⟩] 23)
          have hown1 := (own_below hown b1).alloc (.cells #[.int .i64 0, .int .i64 0, .string ⟨#[]⟩] 23)
          have HF := Lib.hid (RowsOut.mk HV.out (IsRecs.own hown1 (by unfold maxLen; omega) HSH.out) b02)
          clear hown1 b02
          go_wp2_with fail
          go_ret3
          exact HF.out
      · obtain ⟨q, hq⟩ : ∃ q, k + j = q := ⟨_, rfl⟩
        rw [nextVal_yes he hq] at C
        rw [List.length_drop, HL.out] at h6
        have hst := HR.out.step he (by omega) (by rw [List.length_drop, HL.out]; omega)
        rw [hq] at hst
        have HV := Lib.hid hst
        have HSN := Lib.hid (okAll_snoc HSH.out hok)
        unfold recVal at C
        have C := Lib.hid C
        clear he hok hst
        have hq2 : q ≤ s.size := by omega
        have hq3 : rs.length + 1 ≤ q := by omega
        have hq4 : k < q := by omega
        clear hq
        go_wp2_with fail
        refine (C.out _).mono ?_
        rintro e w1 ⟨rfl, b1⟩
        have b01 := hb.trans (b1.mono hb.size)
        have hown1 := own_below hown b1
        go_wp2_with (at_builtin; refine wpList_append_own _ rfl _ _ 33 rfl w.heap.size 23 i0 (.agg #[.int .i64 0, .int .i64 0, .string ByteArray.empty]) 3 32 Try.underlying33 hi hz0 hz1 hz2 rfl (by decide) _ _ _ rfl ((hown1.alloc _).alloc _) ⟨w1.heap.size + 1, 0, none⟩ 1 1 [.int .i64 r.a, .int .i64 r.t, .string r.d] (by simp [go_sem]) rfl (news_two _ _ _ _ _ _) (by simp [Value.oneCell']) (by unfold maxLen; omega) (by omega) (by simp; have := b01.size; omega) ?_; intro v' w3 hown' hgrow3 hnil3)
        go_roundw
        case rel =>
          exact ⟨rs ++ [r], q, hq2, rfl, own_rec_snoc hown', HV.out, by rw [List.length_append]; exact hq3, HSN.out, ((b01.alloc b01.size _).alloc (by simp; have := b01.size; omega) _).grown hgrow3 (by simp; have := b01.size; omega) (fun p hp => (hown1.lt p hp).1)⟩
        case measure =>
          simp [intOf]; omega
    · have HV := Lib.hid (HR.out.done (by rw [HL.out]; omega))
      have HF := Lib.hid (RowsOut.mk HV.out (IsRecs.own hown (by unfold maxLen; omega) HSH.out) hb)
      go_wp2_with fail
      go_ret3
      exact HF.out

end Go.Proofs.Ytjcokcnlbofbkaa

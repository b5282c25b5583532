/-
  What slices.Clone, fold's Step and fold's Fold answer: states of the call's own; nothing that was there is changed.
-/
import Derived.Test.YtndfpbolneofmaaFoldTake
import Derived.Test.YtndfpbolneofmaaRecOpen
namespace Go.Proofs.Ytndfpbolneofmaa
open Go.RowKit

theorem prs_cells {w : World} {b off : Nat} {l : List Fp.Pr} (h : ∀ i, i < l.length → w.cell? ⟨b, off + i * 2, none⟩ = some (.int .u8 ((l.getD i Fp.zero).k.toNat : Int)) ∧ w.cell? ⟨b, off + i * 2 + 1, none⟩ = some (.string (l.getD i Fp.zero).v)) :
    ∀ j u, (prVals l)[j]? = some u → w.cell? ((⟨b, off, none⟩ : Addr).add j) = some u := by
  intro j u hj
  have hjl := (List.getElem?_eq_some_iff.1 hj).1
  rw [prVals_len] at hjl
  rw [addr_plain]
  obtain ⟨c0, c1⟩ := h (j / 2) (by omega)
  obtain ⟨d0, d1⟩ := prVals_get l (j / 2) (by omega)
  rcases Nat.mod_two_eq_zero_or_one j with hm | hm
  · rw [show off + j = off + j / 2 * 2 from by omega, c0, ← d0, show j / 2 * 2 = j from by omega, hj]
  · rw [show off + j = off + j / 2 * 2 + 1 from by omega, c1, ← d1, show j / 2 * 2 + 1 = j from by omega, hj]

set_option maxHeartbeats 1600000 in
set_option maxRecDepth 100000 in
theorem clone_nil (cap : Nat) (w : World) :
    Calls Try.prog 21 #[.slice none 0 cap] w (OwnOut w w.heap.size []) := by
  have q22 : ∀ (w : World) (a : Option Addr) (n c n' c' : Nat), (binOp .eql 22 (.slice a n c) (.slice none n' c')).run Try.prog w = .ok (.bool a.isNone) w := fun w a n c n' c' => Lib.run_eql_slice_nil w _ _ a n c n' c' Try.underlying22
  have HF := Lib.hid (OwnOut.mk (Own.nil w w.heap.size) (Below.refl _ w))
  go_enter Try.func21, Try.ntmps21
  go_wp2_with fail
  go_ret
  exact HF.out

set_option maxHeartbeats 1600000 in
set_option maxRecDepth 100000 in
theorem clone_some (x : Addr) (cap : Nat) (l : List Fp.Pr) (w : World) (hl : l.length ≤ 1000000000000) (hc : ∀ j u, (prVals l)[j]? = some u → w.cell? (x.add j) = some u) :
    Calls Try.prog 21 #[.slice (some x) l.length cap] w (OwnOut w w.heap.size l) := by
  obtain ⟨i0, hi0, hz0, hz1, hz2⟩ := info_parts info_pr
  have q22 : ∀ (w : World) (a : Option Addr) (n c n' c' : Nat), (binOp .eql 22 (.slice a n c) (.slice none n' c')).run Try.prog w = .ok (.bool a.isNone) w := fun w a n c n' c' => Lib.run_eql_slice_nil w _ _ a n c n' c' Try.underlying22
  have HC : Hid (∀ j u, (prVals l)[j]? = some u → (w.alloc (.cells #[] 40)).cell? (x.add j) = some u) := fun j u hj => Lib.cell?_alloc_some _ (hc j u hj)
  have H1 := Lib.hid (prVals_one l)
  have HL := Lib.hid (prVals_len l)
  have HF : Hid (∀ v' w3, w3.ownsRow w.heap.size 40 2 v' (0 + l.length) ([] ++ prVals l) → (w.alloc (.cells #[] 40)).grownBy w3 (some w.heap.size) → OwnOut w w.heap.size l (.returned v') w3) := by
    intro v' w3 h hg
    rw [Nat.zero_add, List.nil_append] at h
    exact OwnOut.mk h (((Below.refl _ w).alloc (Nat.le_refl _) _).grown hg (by simp) (fun k hk => by injection hk with hk; omega))
  have hown := Lib.hid (World.ownsRow_made (e := 40) (size := 2) w #[] 0 (Nat.le_refl _) (Nat.zero_le _) (by simp))
  clear hc
  generalize prVals l = xs at *
  generalize l.length = len at *
  go_enter Try.func21, Try.ntmps21
  go_wp2_with (at_builtin; refine wpList_append_own _ rfl _ _ 22 rfl w.heap.size 40 i0 (.agg #[.int .u8 0, .string ByteArray.empty]) 2 24 Try.underlying22 hi0 hz0 hz1 hz2 rfl (by decide) _ _ _ rfl hown.out x len cap xs rfl HL.out HC.out H1.out (by unfold maxLen; omega) (by omega) (by simp) ?_; intro v' w3 hown' hgrow3 hnil3)
  go_ret
  exact HF.out v' w3 hown' hgrow3

theorem clone_any (v : Value) (l : List Fp.Pr) (w : World) (h : IsPrs w v l) (hl : l.length ≤ 1000000000000) :
    Calls Try.prog 21 #[v] w (OwnOut w w.heap.size l) := by
  obtain ⟨a, cap, rfl, _, _, h3⟩ := h
  rcases h3 with rfl | ⟨b, off, rfl, h4⟩
  · cases a with
    | none => exact clone_nil cap w
    | some x => exact clone_some x cap [] w (by simp) (by simp [prVals])
  · exact clone_some ⟨b, off, none⟩ cap l w hl (prs_cells h4)

set_option maxHeartbeats 800000 in
set_option maxRecDepth 100000 in
theorem step_any (v : Value) (l : List Fp.Pr) (s : ByteArray) (w : World) (h : IsPrs w v l) (hu : Fp.Up l) :
    Calls Try.prog 12 #[v, .string s] w (OwnOut w w.heap.size (Fp.step l s)) := by
  have hl := hu.len
  have hv : ∀ p ∈ l, p.v.size ≤ 9223372036854775807 := by obtain ⟨_, _, _, _, hv, _⟩ := h; exact hv
  have C := Lib.hid (clone_any v l w h (by omega))
  have T := Lib.hid fun (v' : Value) (W : World) (ho : Own W w.heap.size v' l) (hb : w.heap.size ≤ W.heap.size) => take_any l w.heap.size v' s W ho hb hu hv
  clear h hu hv hl
  go_enter Try.func12, Try.ntmps12
  go_wp2_with fail
  refine C.out.mono ?_
  rintro e w1 ⟨v1, rfl, ho, b1⟩
  have HO := Lib.hid ho
  clear ho
  go_wp2_with fail
  refine (T.out v1 w1 HO.out b1.size).mono ?_
  rintro e w2 ⟨v2, rfl, ho2, b2⟩
  have HG := Lib.hid (OwnOut.mk ho2 (b1.trans b2))
  clear ho2 b2 b1
  go_wp2_with fail
  go_ret
  exact HG.out

theorem step_big {l : List Fp.Pr} {s : ByteArray} {m : Nat} (h : ∀ p ∈ l, p.v.size ≤ m) (hs : s.size ≤ m) : ∀ p ∈ Fp.step l s, p.v.size ≤ m := by
  intro p hp
  by_cases h0 : s.size = 0
  · rw [Fp.step_zero l h0] at hp; exact h p hp
  · rcases (Fp.mem_step h0).1 hp with ⟨h1, _⟩ | ⟨rfl, _⟩
    · exact h p h1
    · show (s.extract 1 s.size).size ≤ m
      rw [ByteArray.size_extract]
      omega
theorem getD_rec {rs : List Rp.Rec} {k : Nat} (h : k < rs.length) : rs.getD k Rp.zero = rs[k] := by simp [List.getD_eq_getElem?_getD, h]

/-- What Fold's loop keeps: the state behind so many records. -/
structure FoldIn (w : World) (l : List Fp.Pr) (rs : List Rp.Rec) (k : Nat) (v : Value) (wr : World) : Prop where
  own : Own wr w.heap.size v (Fp.fold l ((rs.take k).map (·.d)))
  up : Fp.Up (Fp.fold l ((rs.take k).map (·.d)))
  big : ∀ p ∈ Fp.fold l ((rs.take k).map (·.d)), p.v.size ≤ 9223372036854775807
  bel : Below w.heap.size w wr
theorem fold_take {l : List Fp.Pr} {rs : List Rp.Rec} {k : Nat} (hk : k < rs.length) : Fp.fold l ((rs.take (k + 1)).map (·.d)) = Fp.step (Fp.fold l ((rs.take k).map (·.d))) (rs.getD k Rp.zero).d := by
  rw [List.take_succ_eq_append_getElem hk, List.map_append, ← getD_rec hk]
  exact Fp.fold_snoc _ _ _

set_option maxHeartbeats 1600000 in
set_option maxRecDepth 100000 in
theorem fold_some (v : Value) (l : List Fp.Pr) (rs : List Rp.Rec) (b off cap : Nat) (w : World) (h : IsPrs w v l) (hu : Fp.Up l) (hm : rs.length ≤ 9223372036854775807) (hs : ∀ r ∈ rs, RecOk r)
    (hc : ∀ i, i < rs.length → w.cell? ⟨b, off + i * 3, none⟩ = some (.int .i64 (rs.getD i Rp.zero).a) ∧ w.cell? ⟨b, off + i * 3 + 1, none⟩ = some (.int .i64 (rs.getD i Rp.zero).t) ∧ w.cell? ⟨b, off + i * 3 + 2, none⟩ = some (.string (rs.getD i Rp.zero).d)) :
    Calls Try.prog 19 #[v, .slice (some ⟨b, off, none⟩) rs.length cap] w (OwnOut w w.heap.size (Fp.fold l (rs.map (·.d)))) := by
  have hl := hu.len
  have hv : ∀ p ∈ l, p.v.size ≤ 9223372036854775807 := by obtain ⟨_, _, _, _, hv, _⟩ := h; exact hv
  have C := Lib.hid (clone_any v l w h (by omega))
  have HU := Lib.hid hu
  have HV := Lib.hid hv
  have HC := Lib.hid hc
  have HS := Lib.hid fun (k : Nat) (hk : k < rs.length) => (hs _ (by rw [getD_rec hk]; exact List.getElem_mem _ : rs.getD k Rp.zero ∈ rs)).d1
  clear h hu hv hl hc hs
  obtain ⟨len, hlen⟩ : ∃ len, rs.length = len := ⟨_, rfl⟩
  rw [hlen] at HC hm ⊢
  have HL := Lib.hid hlen
  clear hlen
  go_enter Try.func19, Try.ntmps19
  go_wp2_with fail
  refine C.out.mono ?_
  rintro e w1 ⟨v1, rfl, ho, b1⟩
  have HI : Hid (FoldIn w l rs 0 v1 w1) := ⟨ho, HU.out, HV.out, b1⟩
  clear ho b1
  go_wp2_with fail
  go_loopw [5, 12] (fun x i wr => ∃ k : Nat, k ≤ len ∧ i = .int .i64 k ∧ FoldIn w l rs k x wr) (fun _ i _ => len - (intOf i).toNat)
  case atStart => exact ⟨0, Nat.zero_le _, rfl, HI.out⟩
  case round =>
    obtain ⟨k, hk, rfl, hr⟩ := hrel
    have HR := Lib.hid hr
    clear hr
    by_cases hlt : k < len
    · have hlt' : k < rs.length := by rw [HL.out]; exact hlt
      have bel := HR.out.bel
      obtain ⟨c0, c1, c2⟩ := HC.out k hlt
      have hbb := block_lt_of_cell c0
      have z0 : wr.cell? ⟨b, off + k * 3, none⟩ = some (.int .i64 (rs.getD k Rp.zero).a) := by rw [bel.cell (p := ⟨b, off + k * 3, none⟩) hbb]; exact c0
      have z1 : wr.cell? ⟨b, off + k * 3 + 1, none⟩ = some (.int .i64 (rs.getD k Rp.zero).t) := by rw [bel.cell (p := ⟨b, off + k * 3 + 1, none⟩) hbb]; exact c1
      have z2 : wr.cell? ⟨b, off + k * 3 + 2, none⟩ = some (.string (rs.getD k Rp.zero).d) := by rw [bel.cell (p := ⟨b, off + k * 3 + 2, none⟩) hbb]; exact c2
      clear c0 c1 c2
      have HT := Lib.hid (@fold_take l rs k hlt')
      have HD := Lib.hid (HS.out k hlt')
      have HSZ := Lib.hid bel.size
      clear bel hlt'
      generalize rs.getD k Rp.zero = r at *
      go_wp2_with fail
      have bel2 := Lib.hid (HR.out.bel.alloc HSZ.out (.cells #[.int .i64 r.a, .int .i64 r.t, .string r.d] 35))
      refine (take_any _ w.heap.size _ r.d _ (World.ownsRow.alloc HR.out.own _) bel2.out.size HR.out.up HR.out.big).mono ?_
      rintro e w2 ⟨v2, rfl, ho2, b2⟩
      have HI2 : Hid (FoldIn w l rs (k + 1) v2 w2) := ⟨by rw [HT.out]; exact ho2, by rw [HT.out]; exact HR.out.up.step _, by rw [HT.out]; exact step_big HR.out.big HD.out, bel2.out.trans b2⟩
      clear ho2 b2
      go_wp2_with fail
      go_roundw
      case rel => exact ⟨k + 1, by omega, by go_num, HI2.out⟩
      case measure => simp [intOf]; omega
    · have hall : rs.take k = rs := List.take_of_length_le (by rw [HL.out]; omega)
      have HF : Hid (∀ x, FoldIn w l rs k x wr → OwnOut w w.heap.size (Fp.fold l (rs.map (·.d))) (.returned x) wr) := by
        intro x hx
        have := hx.own
        rw [hall] at this
        exact OwnOut.mk this hx.bel
      clear hall
      go_wp2_with fail
      go_ret
      exact HF.out _ HR.out

set_option maxHeartbeats 800000 in
set_option maxRecDepth 100000 in
theorem fold_none (v : Value) (l : List Fp.Pr) (a : Option Addr) (cap : Nat) (w : World) (h : IsPrs w v l) (hu : Fp.Up l) :
    Calls Try.prog 19 #[v, .slice a 0 cap] w (OwnOut w w.heap.size l) := by
  have hl := hu.len
  have C := Lib.hid (clone_any v l w h (by omega))
  clear h hu hl
  go_enter Try.func19, Try.ntmps19
  go_wp2_with fail
  refine C.out.mono ?_
  rintro e w1 ⟨v1, rfl, ho, b1⟩
  have HG := Lib.hid (OwnOut.mk ho b1)
  clear ho b1
  go_wp2_with fail
  refine wp_loop_rounds 1 ?_
  rw [rounds_succ]
  go_wp2_with fail
  go_ret
  exact HG.out

/-- fold's Fold, of whatever state and records. -/
theorem fold_any (v : Value) (l : List Fp.Pr) (vr : Value) (rs : List Rp.Rec) (w : World) (h : IsPrs w v l) (hu : Fp.Up l) (hr : IsRecs w vr rs) :
    Calls Try.prog 19 #[v, vr] w (OwnOut w w.heap.size (Fp.fold l (rs.map (·.d)))) := by
  obtain ⟨a, cap, rfl, hm, hs, h3⟩ := hr
  rcases h3 with rfl | ⟨b, off, rfl, h4⟩
  · exact fold_none v l a cap w h hu
  · exact fold_some v l rs b off cap w h hu (by unfold maxLen at hm; omega) hs h4

end Go.Proofs.Ytndfpbolneofmaa

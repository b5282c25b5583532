/-
  What the two Names functions and the document's Few answer.
-/
import Derived.Test.YtbkiecjbjehaoaaDiskRef2
import Derived.Test.YtbkiecjbjehaoaaDiskCrash
import Derived.BigQuiet
namespace Go.Proofs.Ytbkiecjbjehaoaa.Dsk
open Go.RowKit Go.Proofs.Ytbkiecjbjehaoaa.Dp

/-- How texts lie in memory. -/
def SL : Lay ByteArray where
  enc := fun s => [.string s]
  k := 1
  len := fun _ => rfl
  one := by intro f u hu; simp at hu; rw [hu]; rfl
  pos := by decide
  T := 9
  ok := fun _ => True
  z := ⟨#[]⟩
theorem info_sl : (Try.prog.info? 9).map (fun i => (i.zero, i.size, i.bytes)) = some (some (.string ByteArray.empty), 1, 16) := by kernel_rfl
theorem sl_at {w : World} {a : Option Addr} {n cap : Nat} {l : List ByteArray} (h : IsL SL w (.slice a n cap) l) {i : Nat} (hi : i < n) : ∃ b off, a = some ⟨b, off, none⟩ ∧ w.cell? ⟨b, off + i, none⟩ = some (.string (l.getD i ⟨#[]⟩)) := by
  have h' := h
  obtain ⟨a', cap', e, _, _, h3⟩ := h
  injection e with e1 e2 e3
  rcases h3 with h3 | ⟨b, off, h4, _⟩
  · rw [h3] at e2; simp at e2; omega
  · subst e1
    subst h4
    refine ⟨b, off, rfl, ?_⟩
    have := h'.at_ hi 0 _ rfl
    simpa [SL] using this
theorem names_snoc (l : List Fl) {k : Nat} (h : k < l.length) : (l.map (·.n)).take (k + 1) = (l.map (·.n)).take k ++ [(l.getD k zero).n] := by
  rw [List.take_succ_eq_append_getElem (by rw [List.length_map]; exact h), List.getElem_map, getD_fl h]

set_option maxRecDepth 100000 in
set_option maxHeartbeats 3200000 in
theorem names_any (fv : Value) (D : Dk) (w : World) (hv : IsL FL w fv D.f) (hl : D.f.length ≤ 1000000000) :
    Calls Try.prog 15 #[dkVal fv D] w (OutL SL w w.heap.size (D.f.map (·.n))) := by
  obtain ⟨i0, hi0, hz0, hz1, hz2⟩ := info_parts info_sl
  obtain ⟨fa, fn, fc, rfl⟩ : ∃ a n c, fv = .slice a n c := by obtain ⟨a, c, h, _⟩ := hv; exact ⟨a, _, c, h⟩
  have HV := Lib.hid hv
  have hfl := hv.len.1
  have HT := Lib.hid fun k (hk : k < D.f.length) => names_snoc D.f hk
  have HA := Lib.hid (show ∀ k, D.f.length ≤ k → (D.f.map (·.n)).take k = D.f.map (·.n) from fun k hk => by rw [List.take_of_length_le (by rw [List.length_map]; exact hk)])
  have HLEN := Lib.hid (show ∀ k, ((D.f.map (·.n)).take k).length ≤ k from fun k => by rw [List.length_take]; omega)
  have G0 := Lib.hid (heap_alloc_new w (.cells #[.slice fa fn fc, .int .i64 D.c, .bool D.a, .int .i64 D.l, .bool D.x] 24))
  have B0 := Lib.hid ((Below.refl w.heap.size w).alloc (Nat.le_refl _) (.cells #[.slice fa fn fc, .int .i64 D.c, .bool D.a, .int .i64 D.l, .bool D.x] 24))
  obtain ⟨fl, dc, da, dl, dx⟩ := D
  dsimp only at *
  rw [← hfl] at hl HT HA
  clear hfl hv
  unfold dkVal
  dsimp only
  obtain ⟨q0, q1, q2, q3, q4⟩ := cells5 G0.out
  go_enter Try.func15, Try.ntmps15
  go_wp2_with fail
  generalize World.alloc w _ = w0 at G0 B0 q0 q1 q2 q3 q4 ⊢
  have hs0 := (Array.getElem?_eq_some_iff.1 G0.out).1
  go_loopw [3, 9] (fun s i wr => ∃ k : Nat, k ≤ fn ∧ i = .int .i64 k ∧ OwnL SL wr w0.heap.size s ((fl.map (·.n)).take k) ∧ Below w0.heap.size w0 wr) (fun _ i _ => fn - (intOf i).toNat)
  case atStart => exact ⟨0, Nat.zero_le _, rfl, by rw [List.take_zero]; exact OwnL.nil _ _, Below.refl _ _⟩
  case round =>
    clear q0 q1 q2 q3 q4
    obtain ⟨k, hk, rfl, hO, bel⟩ := hrel
    have HO := Lib.hid hO
    have hh := hkeep G0.out bel
    obtain ⟨p0, p1, p2, p3, p4⟩ := cells5 hh
    have hwl := (Array.getElem?_eq_some_iff.1 hh).1
    clear hO hh
    by_cases hlt : k < fn
    · obtain ⟨b, off, rfl, c0, c1, c2⟩ := isL_at (HV.out.keep (B0.out.trans (bel.mono B0.out.size))) hlt
      have HTk := HT.out k hlt
      have hlk := HLEN.out k
      have hbel := bel.size
      have hgl := block_lt_of_cell c0
      generalize fl.getD k zero = f at *
      generalize (fl.map (·.n)).take k = L at *
      replace HTk := Lib.hid HTk
      have HF : Hid (∀ v' w3, w3.ownsRow w0.heap.size 9 1 v' (L.length + 1) (SL.vals L ++ [.string f.n]) → OwnL SL w3 w0.heap.size v' (L ++ [f.n])) := fun v' w3 h => OwnL.snoc (n := L.length) h rfl rfl
      have HB2 := Lib.hid (show Below wr.heap.size wr (wr.alloc (.cells #[.string f.n, .string f.d, .int .i64 f.s] 43)) from (Below.refl _ wr).alloc (Nat.le_refl _) _)
      have HOX := Lib.hid (show ((wr.alloc (.cells #[.string f.n, .string f.d, .int .i64 f.s] 43)).alloc (.cells [Value.string f.n].toArray 9)).ownsRow w0.heap.size 9 1 u3 L.length (SL.vals L) from (HO.out.keep HB2.out).alloc _)
      have HLT := Lib.hid fun k' (h : _) => HO.out.lt k' h
      have HBW := Lib.hid ((bel.trans (HB2.out.mono hbel)).alloc (Nat.le_trans hbel HB2.out.size) (.cells [Value.string f.n].toArray 9))
      have HNEW := Lib.hid (news_new (wr.alloc (.cells #[.string f.n, .string f.d, .int .i64 f.s] 43)) (wr.heap.size + 1) [Value.string f.n] 9 (by simp))
      have H1 := Lib.hid (show ∀ u ∈ [Value.string f.n], u.oneCell' = true from SL.one f.n)
      generalize hxs : SL.vals L = xs at *
      generalize hll : L.length = ll at *
      clear hxs hll
      go_wp2_with (at_builtin; refine wpList_append_own _ rfl _ _ 37 rfl w0.heap.size 9 i0 (.string ByteArray.empty) 1 16 Try.underlying37 hi0 hz0 hz1 hz2 rfl (by decide) _ _ _ rfl HOX.out ⟨wr.heap.size + 1, 0, none⟩ 1 1 [Value.string f.n] rfl rfl HNEW.out H1.out (by unfold maxLen; omega) (by omega) (by simp; omega) ?_; intro v' w3 hown' hgrow3 hnil3)
      go_roundw
      case rel =>
        exact ⟨k + 1, by omega, by go_num, by rw [HTk.out]; exact HF.out v' w3 hown', HBW.out.grown hgrow3 (by simp; omega) (fun q hq => (HLT.out q hq).1)⟩
      case measure => simp [intOf]; omega
    · have HF := HA.out k (by omega)
      have HOO := HO.out
      rw [HF] at HOO
      have HOO := Lib.hid (own_base HOO B0.out.size)
      have HG := Lib.hid (fun v (h : OwnL SL wr w.heap.size v (fl.map (·.n))) => OutL.mk (w := w) h (B0.out.trans (bel.mono B0.out.size)))
      clear HF
      go_wp2_with fail
      go_ret
      exact HG.out _ HOO.out

set_option maxRecDepth 100000 in
set_option maxHeartbeats 3200000 in
theorem rnames_any (fv : Value) (D : Dk) (w : World) (hv : IsL FL w fv D.f) (hl : D.f.length ≤ 1000000000) :
    Calls Try.prog 16 #[dkVal fv D] w (OutL SL w w.heap.size (D.f.map (·.n))) := by
  obtain ⟨i0, hi0, hz0, hz1, hz2⟩ := info_parts info_sl
  obtain ⟨fa, fn, fc, rfl⟩ : ∃ a n c, fv = .slice a n c := by obtain ⟨a, c, h, _⟩ := hv; exact ⟨a, _, c, h⟩
  have HV := Lib.hid hv
  have hfl := hv.len.1
  have HT := Lib.hid fun k (hk : k < D.f.length) => names_snoc D.f hk
  have HA := Lib.hid (show ∀ k, D.f.length ≤ k → (D.f.map (·.n)).take k = D.f.map (·.n) from fun k hk => by rw [List.take_of_length_le (by rw [List.length_map]; exact hk)])
  have HLEN := Lib.hid (show ∀ k, ((D.f.map (·.n)).take k).length ≤ k from fun k => by rw [List.length_take]; omega)
  have G0 := Lib.hid (heap_alloc_new w (.cells #[.slice fa fn fc, .int .i64 D.c, .bool D.a, .int .i64 D.l, .bool D.x] 24))
  have B0 := Lib.hid ((Below.refl w.heap.size w).alloc (Nat.le_refl _) (.cells #[.slice fa fn fc, .int .i64 D.c, .bool D.a, .int .i64 D.l, .bool D.x] 24))
  obtain ⟨fl, dc, da, dl, dx⟩ := D
  dsimp only at *
  rw [← hfl] at hl HT HA
  clear hfl hv
  unfold dkVal
  dsimp only
  obtain ⟨q0, q1, q2, q3, q4⟩ := cells5 G0.out
  go_enter Try.func16, Try.ntmps16
  go_wp2_with fail
  generalize World.alloc w _ = w0 at G0 B0 q0 q1 q2 q3 q4 ⊢
  have hs0 := (Array.getElem?_eq_some_iff.1 G0.out).1
  go_loopw [3, 4] (fun s i wr => ∃ k : Nat, k ≤ fn ∧ i = .int .i64 k ∧ OwnL SL wr w0.heap.size s ((fl.map (·.n)).take k) ∧ Below w0.heap.size w0 wr) (fun _ i _ => fn - (intOf i).toNat)
  case atStart => exact ⟨0, Nat.zero_le _, rfl, by rw [List.take_zero]; exact OwnL.nil _ _, Below.refl _ _⟩
  case round =>
    clear q0 q1 q2 q3 q4
    obtain ⟨k, hk, rfl, hO, bel⟩ := hrel
    have HO := Lib.hid hO
    have hh := hkeep G0.out bel
    obtain ⟨p0, p1, p2, p3, p4⟩ := cells5 hh
    have hwl := (Array.getElem?_eq_some_iff.1 hh).1
    clear hO hh
    by_cases hlt : k < fn
    · obtain ⟨b, off, rfl, c0, c1, c2⟩ := isL_at (HV.out.keep (B0.out.trans (bel.mono B0.out.size))) hlt
      have HTk := HT.out k hlt
      have hlk := HLEN.out k
      have hbel := bel.size
      have hgl := block_lt_of_cell c0
      generalize fl.getD k zero = f at *
      generalize (fl.map (·.n)).take k = L at *
      replace HTk := Lib.hid HTk
      have HF : Hid (∀ v' w3, w3.ownsRow w0.heap.size 9 1 v' (L.length + 1) (SL.vals L ++ [.string f.n]) → OwnL SL w3 w0.heap.size v' (L ++ [f.n])) := fun v' w3 h => OwnL.snoc (n := L.length) h rfl rfl
      have HB2 := Lib.hid (show Below wr.heap.size wr (wr) from Below.refl _ _)
      have HOX := Lib.hid (show ((wr).alloc (.cells [Value.string f.n].toArray 9)).ownsRow w0.heap.size 9 1 u3 L.length (SL.vals L) from (HO.out.keep HB2.out).alloc _)
      have HLT := Lib.hid fun k' (h : _) => HO.out.lt k' h
      have HBW := Lib.hid ((bel.trans (HB2.out.mono hbel)).alloc (Nat.le_trans hbel HB2.out.size) (.cells [Value.string f.n].toArray 9))
      have HNEW := Lib.hid (news_new (wr) (wr.heap.size) [Value.string f.n] 9 (by simp))
      have H1 := Lib.hid (show ∀ u ∈ [Value.string f.n], u.oneCell' = true from SL.one f.n)
      generalize hxs : SL.vals L = xs at *
      generalize hll : L.length = ll at *
      clear hxs hll
      go_wp2_with (at_builtin; refine wpList_append_own _ rfl _ _ 37 rfl w0.heap.size 9 i0 (.string ByteArray.empty) 1 16 Try.underlying37 hi0 hz0 hz1 hz2 rfl (by decide) _ _ _ rfl HOX.out ⟨wr.heap.size, 0, none⟩ 1 1 [Value.string f.n] rfl rfl HNEW.out H1.out (by unfold maxLen; omega) (by omega) (by simp; omega) ?_; intro v' w3 hown' hgrow3 hnil3)
      go_roundw
      case rel =>
        exact ⟨k + 1, by omega, by go_num, by rw [HTk.out]; exact HF.out v' w3 hown', HBW.out.grown hgrow3 (by simp; omega) (fun q hq => (HLT.out q hq).1)⟩
      case measure => simp [intOf]; omega
    · have HF := HA.out k (by omega)
      have HOO := HO.out
      rw [HF] at HOO
      have HOO := Lib.hid (own_base HOO B0.out.size)
      have HG := Lib.hid (fun v (h : OwnL SL wr w.heap.size v (fl.map (·.n))) => OutL.mk (w := w) h (B0.out.trans (bel.mono B0.out.size)))
      clear HF
      go_wp2_with fail
      go_ret
      exact HG.out _ HOO.out

/-- Few files, of few bytes? -/
def FewF (l : List Fl) : Prop := l.length ≤ 40 ∧ ∀ f ∈ l, f.d.size ≤ 3000 ∧ f.n.size ≤ 100
instance (l : List Fl) : Decidable (FewF l) := inferInstanceAs (Decidable (_ ∧ _))

set_option maxRecDepth 100000 in
set_option maxHeartbeats 3200000 in
theorem rfew_any (fv : Value) (D : Dk) (b : Bool) (w : World) (hv : IsL FL w fv D.f) (hb : decide (FewF D.f) = b) :
    Calls Try.prog 6 #[dkVal fv D] w fun e w' => e = .returned (.bool b) ∧ Below w.heap.size w w' := by
  obtain ⟨fa, fn, fc, rfl⟩ : ∃ a n c, fv = .slice a n c := by obtain ⟨a, c, h, _⟩ := hv; exact ⟨a, _, c, h⟩
  have HV := Lib.hid hv
  have hfl := hv.len.1
  have hl := hv.len.2
  unfold maxLen at hl
  have hl2 : D.f.length ≤ 9223372036854775807 := by omega
  clear hl
  have HOK := Lib.hid hv.ok
  have G0 := Lib.hid (heap_alloc_new w (.cells #[.slice fa fn fc, .int .i64 D.c, .bool D.a, .int .i64 D.l, .bool D.x] 24))
  have B0 := Lib.hid ((Below.refl w.heap.size w).alloc (Nat.le_refl _) (.cells #[.slice fa fn fc, .int .i64 D.c, .bool D.a, .int .i64 D.l, .bool D.x] 24))
  have HLong := Lib.hid (show 40 < D.f.length → b = false from fun h => by rw [← hb]; exact decide_eq_false fun h2 => by have := h2.1; omega)
  have HNo := Lib.hid (show ∀ k, k < D.f.length → ¬ ((D.f.getD k zero).d.size ≤ 3000 ∧ (D.f.getD k zero).n.size ≤ 100) → b = false from fun k hk hn => by
    rw [← hb]
    refine decide_eq_false fun h2 => hn ?_
    rw [getD_fl hk]
    exact h2.2 _ (List.getElem_mem hk))
  have HYes := Lib.hid (show D.f.length ≤ 40 → (∀ k, k < D.f.length → (D.f.getD k zero).d.size ≤ 3000 ∧ (D.f.getD k zero).n.size ≤ 100) → b = true from fun h1 h2 => by
    rw [← hb]
    refine decide_eq_true ⟨h1, fun f hf => ?_⟩
    obtain ⟨k, hk, rfl⟩ := List.getElem_of_mem hf
    have := h2 k hk
    rw [getD_fl hk] at this
    exact this)
  obtain ⟨fl, dc, da, dl, dx⟩ := D
  dsimp only at *
  rw [← hfl] at hl2 HLong HNo HYes
  have HFL := Lib.hid hfl
  clear hfl hv hb
  unfold dkVal
  dsimp only
  obtain ⟨q0, q1, q2, q3, q4⟩ := cells5 G0.out
  by_cases h40 : 40 < fn
  · have HB := Lib.hid (HLong.out h40)
    have i40 : (40 : Int) < (fn : Int) := by omega
    go_enter Try.func6, Try.ntmps6
    go_wp2_with fail
    go_ret
    exact ⟨by rw [HB.out]; rfl, B0.out⟩
  · have hl40 : fn ≤ 40 := by omega
    clear h40
    go_enter Try.func6, Try.ntmps6
    go_wp2_with fail
    generalize World.alloc w _ = w0 at G0 B0 q0 q1 q2 q3 q4 ⊢
    go_loop [3] (fun i => ∃ k : Nat, k ≤ fn ∧ i = .int .i64 k ∧ (∀ j, j < k → (fl.getD j zero).d.size ≤ 3000 ∧ (fl.getD j zero).n.size ≤ 100)) (fun i => fn - (intOf i).toNat)
    case atStart => exact ⟨0, Nat.zero_le _, rfl, fun j hj => absurd hj (Nat.not_lt_zero j)⟩
    case round =>
      obtain ⟨k, hk, rfl, hall⟩ := hrel
      have HALL := Lib.hid hall
      clear hall
      by_cases hlt : k < fn
      · obtain ⟨g, off, rfl, c0, c1, c2⟩ := isL_at (HV.out.keep B0.out) hlt
        have hfb := HOK.out _ (show fl.getD k zero ∈ fl by rw [getD_fl (by rw [← HFL.out]; exact hlt)]; exact List.getElem_mem _)
        have hz1 := hfb.1
        have hz2 := hfb.2.1
        have HN := Lib.hid (HNo.out k hlt)
        have HG := Lib.hid (show (fl.getD k zero).d.size ≤ 3000 ∧ (fl.getD k zero).n.size ≤ 100 → ∀ j, j < k + 1 → (fl.getD j zero).d.size ≤ 3000 ∧ (fl.getD j zero).n.size ≤ 100 from fun h j hj => by
          by_cases e : j = k
          · subst e; exact h
          · exact HALL.out j (by omega))
        have HD : (3000 < (fl.getD k zero).d.size) ∨ ((fl.getD k zero).d.size ≤ 3000 ∧ 100 < (fl.getD k zero).n.size) ∨ ((fl.getD k zero).d.size ≤ 3000 ∧ (fl.getD k zero).n.size ≤ 100) := by omega
        clear hfb
        generalize fl.getD k zero = f at c0 c1 c2 hz1 hz2 HD HN HG
        rcases HD with h1 | ⟨h1, h2⟩ | ⟨h1, h2⟩
        · have HB := Lib.hid (HN.out (by omega))
          have i1 : (3000 : Int) < (f.d.size : Int) := by omega
          go_wp2_with fail
          go_ret
          exact ⟨by rw [HB.out]; rfl, B0.out⟩
        · have HB := Lib.hid (HN.out (by omega))
          have i1 : ¬ ((3000 : Int) < (f.d.size : Int)) := by omega
          have i2 : (100 : Int) < (f.n.size : Int) := by omega
          go_wp2_with fail
          go_ret
          exact ⟨by rw [HB.out]; rfl, B0.out⟩
        · have i1 : ¬ ((3000 : Int) < (f.d.size : Int)) := by omega
          have i2 : ¬ ((100 : Int) < (f.n.size : Int)) := by omega
          have HGG := Lib.hid (HG.out ⟨h1, h2⟩)
          go_wp2_with fail
          go_round
          case rel => exact ⟨k + 1, by omega, by go_num, HGG.out⟩
          case measure => simp [intOf]; omega
      · have HB := Lib.hid (HYes.out hl40 (fun j hj => HALL.out j (by omega)))
        go_wp2_with fail
        go_ret
        exact ⟨by rw [HB.out]; rfl, B0.out⟩

end Go.Proofs.Ytbkiecjbjehaoaa.Dsk

/-
  Parts of what the laws of this seat stand on: DiskNames, RoCl.
-/
import Derived.Test.YtooipogbmfkeeaaGreatQt1
import Derived.BigQuiet
import Derived.Deep.DeepCutAuto
import Derived.Test.YtooipogbmfkeeaaGreatQt12
import Derived.Test.YtooipogbmfkeeaaGreatQt17
import Derived.Test.YtooipogbmfkeeaaGreatQt27
import Derived.Test.YtooipogbmfkeeaaGreatQt28
import Derived.Test.YtooipogbmfkeeaaGreatQt29
set_option maxRecDepth 100000
set_option maxHeartbeats 6400000
namespace Go.Proofs.YtooipogbmfkeeaaGreat
namespace Dsk
open Go.RowKit Dp
def SL : Lay ByteArray where
 enc := fun s => [.string s]
 k := 1
 len := fun _ => rfl
 one := by intro f u hu; simp at hu; rw [hu]; rfl
 pos := by decide
 T := 9
 ok := fun _ => True
 z := ⟨#[]⟩
theorem info_sl : (Tryz.prog.info? 9).map (fun i => (i.zero, i.size, i.bytes)) = some (some (.string ByteArray.empty), 1, 16) := by kernel_rfl
theorem sl_at {w : World} {a : Option Addr} {n cap : Nat} {l : List ByteArray} (h : IsL SL w (.slice a n cap) l) {i : Nat} (hi : i < n) : ∃ b off, a = some ⟨b, off, none⟩ ∧ w.cell? ⟨b, off + i, none⟩ = some (.string (l.getD i ⟨#[]⟩)) := by
 have h' := h
 obtain ⟨a', cap', e, _, _, h3⟩ := h
 injection e with e1 e2 e3
 rcases h3 with h3 | ⟨b, off, h4, _⟩
 · rw [h3] at e2; simp at e2; omega
 · subst e1
   subst h4
   refine ⟨b, off, rfl, ?_⟩
   have := h'.at_ hi 0 _ rfl
   simpa [SL] using this
theorem names_snoc (l : List Fl) {k : Nat} (h : k < l.length) : (l.map (·.n)).take (k + 1) = (l.map (·.n)).take k ++ [(l.getD k zero).n] := by
 rw [List.take_succ_eq_append_getElem (by rw [List.length_map]; exact h), List.getElem_map, getD_fl h]
theorem names_any (fv : Value) (D : Dk) (w : World) (hv : IsL FL w fv D.f) (hl : D.f.length ≤ 1000000000) :
 Calls Tryz.prog 83 #[dkVal fv D] w (OutL SL w w.heap.size (D.f.map (·.n))) := by
 obtain ⟨i0, hi0, hz0, hz1, hz2⟩ := info_parts info_sl
 obtain ⟨fa, fn, fc, rfl⟩ : ∃ a n c, fv = .slice a n c := by obtain ⟨a, c, h, _⟩ := hv; exact ⟨a, _, c, h⟩
 have HV := zid hv
 have hfl := hv.len.1
 have HT := zid fun k (hk : k < D.f.length) => names_snoc D.f hk
 have HA := zid (show ∀ k, D.f.length ≤ k → (D.f.map (·.n)).take k = D.f.map (·.n) from fun k hk => by rw [List.take_of_length_le (by rw [List.length_map]; exact hk)])
 have HLEN := zid (show ∀ k, ((D.f.map (·.n)).take k).length ≤ k from fun k => by rw [List.length_take]; omega)
 have G0 := zid (heap_alloc_new w (.cells #[.slice fa fn fc, .int .i64 D.c, .bool D.a, .int .i64 D.l, .bool D.x] 24))
 have B0 := zid ((Below.refl w.heap.size w).alloc (Nat.le_refl _) (.cells #[.slice fa fn fc, .int .i64 D.c, .bool D.a, .int .i64 D.l, .bool D.x] 24))
 obtain ⟨fl, dc, da, dl, dx⟩ := D
 dsimp only at *
 rw [← hfl] at hl HT HA
 clear hfl hv
 unfold dkVal
 dsimp only
 obtain ⟨q0, q1, q2, q3, q4⟩ := cells5 G0.out
 go_enter Tryz.func83, Tryz.ntmps83
 go_wp2_with fail
 generalize World.alloc w _ = w0 at G0 B0 q0 q1 q2 q3 q4 ⊢
 have hs0 := (Array.getElem?_eq_some_iff.1 G0.out).1
 go_loopw [3, 9] (fun s i wr => ∃ k : Nat, k ≤ fn ∧ i = .int .i64 k ∧ OwnL SL wr w0.heap.size s ((fl.map (·.n)).take k) ∧ Below w0.heap.size w0 wr) (fun _ i _ => fn - (intOf i).toNat)
 case atStart => exact ⟨0, Nat.zero_le _, rfl, by rw [List.take_zero]; exact OwnL.nil _ _, Below.refl _ _⟩
 case round =>
  clear q0 q1 q2 q3 q4
  obtain ⟨k, hk, rfl, hO, bel⟩ := hrel
  have HO := zid hO
  have hh := hkeep G0.out bel
  obtain ⟨p0, p1, p2, p3, p4⟩ := cells5 hh
  have hwl := (Array.getElem?_eq_some_iff.1 hh).1
  clear hO hh
  by_cases hlt : k < fn
  · obtain ⟨b, off, rfl, c0, c1, c2⟩ := isL_at (HV.out.keep (B0.out.trans (bel.mono B0.out.size))) hlt
    have HTk := HT.out k hlt
    have hlk := HLEN.out k
    have hbel := bel.size
    have hgl := block_lt_of_cell c0
    generalize fl.getD k zero = f at *
    generalize (fl.map (·.n)).take k = L at *
    replace HTk := zid HTk
    have HF : Hid (∀ v' w3, w3.ownsRow w0.heap.size 9 1 v' (L.length + 1) (SL.vals L ++ [.string f.n]) → OwnL SL w3 w0.heap.size v' (L ++ [f.n])) := fun v' w3 h => OwnL.snoc (n := L.length) h rfl rfl
    have HB2 := zid (show Below wr.heap.size wr (wr.alloc (.cells #[.string f.n, .string f.d, .int .i64 f.s] 45)) from (Below.refl _ wr).alloc (Nat.le_refl _) _)
    have HOX := zid (show ((wr.alloc (.cells #[.string f.n, .string f.d, .int .i64 f.s] 45)).alloc (.cells [Value.string f.n].toArray 9)).ownsRow w0.heap.size 9 1 u3 L.length (SL.vals L) from (HO.out.keep HB2.out).alloc _)
    have HLT := zid fun k' (h : _) => HO.out.lt k' h
    have HBW := zid ((bel.trans (HB2.out.mono hbel)).alloc (Nat.le_trans hbel HB2.out.size) (.cells [Value.string f.n].toArray 9))
    have HNEW := zid (news_new (wr.alloc (.cells #[.string f.n, .string f.d, .int .i64 f.s] 45)) (wr.heap.size + 1) [Value.string f.n] 9 (by simp))
    have H1 := zid (show ∀ u ∈ [Value.string f.n], u.oneCell' = true from SL.one f.n)
    generalize hxs : SL.vals L = xs at *
    generalize hll : L.length = ll at *
    clear hxs hll
    go_wp2_with (at_builtin; refine wpList_append_own _ rfl _ _ 68 rfl w0.heap.size 9 i0 (.string ByteArray.empty) 1 16 Tryz.underlying68 hi0 hz0 hz1 hz2 rfl (by decide) _ _ _ rfl HOX.out ⟨wr.heap.size + 1, 0, none⟩ 1 1 [Value.string f.n] rfl rfl HNEW.out H1.out (by unfold maxLen; omega) (by omega) (by simp; omega) ?_; intro v' w3 hown' hgrow3 hnil3)
    go_roundw
    case rel =>
     exact ⟨k + 1, by omega, by go_num, by rw [HTk.out]; exact HF.out v' w3 hown', HBW.out.grown hgrow3 (by simp; omega) (fun q hq => (HLT.out q hq).1)⟩
    case measure => simp [intOf]; omega
  · have HF := HA.out k (by omega)
    have HOO := HO.out
    rw [HF] at HOO
    have HOO := zid (own_base HOO B0.out.size)
    have HG := zid (fun v (h : OwnL SL wr w.heap.size v (fl.map (·.n))) => OutL.mk (w := w) h (B0.out.trans (bel.mono B0.out.size)))
    clear HF
    go_wp2_with fail
    go_ret
    exact HG.out _ HOO.out
theorem rnames_any (fv : Value) (D : Dk) (w : World) (hv : IsL FL w fv D.f) (hl : D.f.length ≤ 1000000000) :
 Calls Tryz.prog 65 #[dkVal fv D] w (OutL SL w w.heap.size (D.f.map (·.n))) := by
 obtain ⟨i0, hi0, hz0, hz1, hz2⟩ := info_parts info_sl
 obtain ⟨fa, fn, fc, rfl⟩ : ∃ a n c, fv = .slice a n c := by obtain ⟨a, c, h, _⟩ := hv; exact ⟨a, _, c, h⟩
 have HV := zid hv
 have hfl := hv.len.1
 have HT := zid fun k (hk : k < D.f.length) => names_snoc D.f hk
 have HA := zid (show ∀ k, D.f.length ≤ k → (D.f.map (·.n)).take k = D.f.map (·.n) from fun k hk => by rw [List.take_of_length_le (by rw [List.length_map]; exact hk)])
 have HLEN := zid (show ∀ k, ((D.f.map (·.n)).take k).length ≤ k from fun k => by rw [List.length_take]; omega)
 have G0 := zid (heap_alloc_new w (.cells #[.slice fa fn fc, .int .i64 D.c, .bool D.a, .int .i64 D.l, .bool D.x] 24))
 have B0 := zid ((Below.refl w.heap.size w).alloc (Nat.le_refl _) (.cells #[.slice fa fn fc, .int .i64 D.c, .bool D.a, .int .i64 D.l, .bool D.x] 24))
 obtain ⟨fl, dc, da, dl, dx⟩ := D
 dsimp only at *
 rw [← hfl] at hl HT HA
 clear hfl hv
 unfold dkVal
 dsimp only
 obtain ⟨q0, q1, q2, q3, q4⟩ := cells5 G0.out
 go_enter Tryz.func65, Tryz.ntmps65
 go_wp2_with fail
 generalize World.alloc w _ = w0 at G0 B0 q0 q1 q2 q3 q4 ⊢
 have hs0 := (Array.getElem?_eq_some_iff.1 G0.out).1
 go_loopw [3, 4] (fun s i wr => ∃ k : Nat, k ≤ fn ∧ i = .int .i64 k ∧ OwnL SL wr w0.heap.size s ((fl.map (·.n)).take k) ∧ Below w0.heap.size w0 wr) (fun _ i _ => fn - (intOf i).toNat)
 case atStart => exact ⟨0, Nat.zero_le _, rfl, by rw [List.take_zero]; exact OwnL.nil _ _, Below.refl _ _⟩
 case round =>
  clear q0 q1 q2 q3 q4
  obtain ⟨k, hk, rfl, hO, bel⟩ := hrel
  have HO := zid hO
  have hh := hkeep G0.out bel
  obtain ⟨p0, p1, p2, p3, p4⟩ := cells5 hh
  have hwl := (Array.getElem?_eq_some_iff.1 hh).1
  clear hO hh
  by_cases hlt : k < fn
  · obtain ⟨b, off, rfl, c0, c1, c2⟩ := isL_at (HV.out.keep (B0.out.trans (bel.mono B0.out.size))) hlt
    have HTk := HT.out k hlt
    have hlk := HLEN.out k
    have hbel := bel.size
    have hgl := block_lt_of_cell c0
    generalize fl.getD k zero = f at *
    generalize (fl.map (·.n)).take k = L at *
    replace HTk := zid HTk
    have HF : Hid (∀ v' w3, w3.ownsRow w0.heap.size 9 1 v' (L.length + 1) (SL.vals L ++ [.string f.n]) → OwnL SL w3 w0.heap.size v' (L ++ [f.n])) := fun v' w3 h => OwnL.snoc (n := L.length) h rfl rfl
    have HB2 := zid (show Below wr.heap.size wr (wr) from Below.refl _ _)
    have HOX := zid (show ((wr).alloc (.cells [Value.string f.n].toArray 9)).ownsRow w0.heap.size 9 1 u3 L.length (SL.vals L) from (HO.out.keep HB2.out).alloc _)
    have HLT := zid fun k' (h : _) => HO.out.lt k' h
    have HBW := zid ((bel.trans (HB2.out.mono hbel)).alloc (Nat.le_trans hbel HB2.out.size) (.cells [Value.string f.n].toArray 9))
    have HNEW := zid (news_new (wr) (wr.heap.size) [Value.string f.n] 9 (by simp))
    have H1 := zid (show ∀ u ∈ [Value.string f.n], u.oneCell' = true from SL.one f.n)
    generalize hxs : SL.vals L = xs at *
    generalize hll : L.length = ll at *
    clear hxs hll
    go_wp2_with (at_builtin; refine wpList_append_own _ rfl _ _ 68 rfl w0.heap.size 9 i0 (.string ByteArray.empty) 1 16 Tryz.underlying68 hi0 hz0 hz1 hz2 rfl (by decide) _ _ _ rfl HOX.out ⟨wr.heap.size, 0, none⟩ 1 1 [Value.string f.n] rfl rfl HNEW.out H1.out (by unfold maxLen; omega) (by omega) (by simp; omega) ?_; intro v' w3 hown' hgrow3 hnil3)
    go_roundw
    case rel =>
     exact ⟨k + 1, by omega, by go_num, by rw [HTk.out]; exact HF.out v' w3 hown', HBW.out.grown hgrow3 (by simp; omega) (fun q hq => (HLT.out q hq).1)⟩
    case measure => simp [intOf]; omega
  · have HF := HA.out k (by omega)
    have HOO := HO.out
    rw [HF] at HOO
    have HOO := zid (own_base HOO B0.out.size)
    have HG := zid (fun v (h : OwnL SL wr w.heap.size v (fl.map (·.n))) => OutL.mk (w := w) h (B0.out.trans (bel.mono B0.out.size)))
    clear HF
    go_wp2_with fail
    go_ret
    exact HG.out _ HOO.out
def FewF (l : List Fl) : Prop := l.length ≤ 40 ∧ ∀ f ∈ l, f.d.size ≤ 3000 ∧ f.n.size ≤ 100
instance (l : List Fl) : Decidable (FewF l) := inferInstanceAs (Decidable (_ ∧ _))
theorem rfew_any (fv : Value) (D : Dk) (b : Bool) (w : World) (hv : IsL FL w fv D.f) (hb : decide (FewF D.f) = b) :
 Calls Tryz.prog 7 #[dkVal fv D] w fun e w' => e = .returned (.bool b) ∧ Below w.heap.size w w' := by
 obtain ⟨fa, fn, fc, rfl⟩ : ∃ a n c, fv = .slice a n c := by obtain ⟨a, c, h, _⟩ := hv; exact ⟨a, _, c, h⟩
 have HV := zid hv
 have hfl := hv.len.1
 have hl := hv.len.2
 unfold maxLen at hl
 have hl2 : D.f.length ≤ 9223372036854775807 := by omega
 clear hl
 have HOK := zid hv.ok
 have G0 := zid (heap_alloc_new w (.cells #[.slice fa fn fc, .int .i64 D.c, .bool D.a, .int .i64 D.l, .bool D.x] 24))
 have B0 := zid ((Below.refl w.heap.size w).alloc (Nat.le_refl _) (.cells #[.slice fa fn fc, .int .i64 D.c, .bool D.a, .int .i64 D.l, .bool D.x] 24))
 have HLong := zid (show 40 < D.f.length → b = false from fun h => by rw [← hb]; exact decide_eq_false fun h2 => by have := h2.1; omega)
 have HNo := zid (show ∀ k, k < D.f.length → ¬ ((D.f.getD k zero).d.size ≤ 3000 ∧ (D.f.getD k zero).n.size ≤ 100) → b = false from fun k hk hn => by
  rw [← hb]
  refine decide_eq_false fun h2 => hn ?_
  rw [getD_fl hk]
  exact h2.2 _ (List.getElem_mem hk))
 have HYes := zid (show D.f.length ≤ 40 → (∀ k, k < D.f.length → (D.f.getD k zero).d.size ≤ 3000 ∧ (D.f.getD k zero).n.size ≤ 100) → b = true from fun h1 h2 => by
  rw [← hb]
  refine decide_eq_true ⟨h1, fun f hf => ?_⟩
  obtain ⟨k, hk, rfl⟩ := List.getElem_of_mem hf
  have := h2 k hk
  rw [getD_fl hk] at this
  exact this)
 obtain ⟨fl, dc, da, dl, dx⟩ := D
 dsimp only at *
 rw [← hfl] at hl2 HLong HNo HYes
 have HFL := zid hfl
 clear hfl hv hb
 unfold dkVal
 dsimp only
 obtain ⟨q0, q1, q2, q3, q4⟩ := cells5 G0.out
 by_cases h40 : 40 < fn
 · have HB := zid (HLong.out h40)
   have i40 : (40 : Int) < (fn : Int) := by omega
   go_enter Tryz.func7, Tryz.ntmps7
   go_wp2_with fail
   go_ret
   exact ⟨by rw [HB.out]; rfl, B0.out⟩
 · have hl40 : fn ≤ 40 := by omega
   clear h40
   go_enter Tryz.func7, Tryz.ntmps7
   go_wp2_with fail
   generalize World.alloc w _ = w0 at G0 B0 q0 q1 q2 q3 q4 ⊢
   go_loop [3] (fun i => ∃ k : Nat, k ≤ fn ∧ i = .int .i64 k ∧ (∀ j, j < k → (fl.getD j zero).d.size ≤ 3000 ∧ (fl.getD j zero).n.size ≤ 100)) (fun i => fn - (intOf i).toNat)
   case atStart => exact ⟨0, Nat.zero_le _, rfl, fun j hj => absurd hj (Nat.not_lt_zero j)⟩
   case round =>
    obtain ⟨k, hk, rfl, hall⟩ := hrel
    have HALL := zid hall
    clear hall
    by_cases hlt : k < fn
    · obtain ⟨g, off, rfl, c0, c1, c2⟩ := isL_at (HV.out.keep B0.out) hlt
      have hfb := HOK.out _ (show fl.getD k zero ∈ fl by rw [getD_fl (by rw [← HFL.out]; exact hlt)]; exact List.getElem_mem _)
      have hz1 := hfb.1
      have hz2 := hfb.2.1
      have HN := zid (HNo.out k hlt)
      have HG := zid (show (fl.getD k zero).d.size ≤ 3000 ∧ (fl.getD k zero).n.size ≤ 100 → ∀ j, j < k + 1 → (fl.getD j zero).d.size ≤ 3000 ∧ (fl.getD j zero).n.size ≤ 100 from fun h j hj => by
       by_cases e : j = k
       · subst e; exact h
       · exact HALL.out j (by omega))
      have HD : (3000 < (fl.getD k zero).d.size) ∨ ((fl.getD k zero).d.size ≤ 3000 ∧ 100 < (fl.getD k zero).n.size) ∨ ((fl.getD k zero).d.size ≤ 3000 ∧ (fl.getD k zero).n.size ≤ 100) := by omega
      clear hfb
      generalize fl.getD k zero = f at c0 c1 c2 hz1 hz2 HD HN HG
      rcases HD with h1 | ⟨h1, h2⟩ | ⟨h1, h2⟩
      · have HB := zid (HN.out (by omega))
        have i1 : (3000 : Int) < (f.d.size : Int) := by omega
        go_wp2_with fail
        go_ret
        exact ⟨by rw [HB.out]; rfl, B0.out⟩
      · have HB := zid (HN.out (by omega))
        have i1 : ¬ ((3000 : Int) < (f.d.size : Int)) := by omega
        have i2 : (100 : Int) < (f.n.size : Int) := by omega
        go_wp2_with fail
        go_ret
        exact ⟨by rw [HB.out]; rfl, B0.out⟩
      · have i1 : ¬ ((3000 : Int) < (f.d.size : Int)) := by omega
        have i2 : ¬ ((100 : Int) < (f.n.size : Int)) := by omega
        have HGG := zid (HG.out ⟨h1, h2⟩)
        go_wp2_with fail
        go_round
        case rel => exact ⟨k + 1, by omega, by go_num, HGG.out⟩
        case measure => simp [intOf]; omega
    · have HB := zid (HYes.out hl40 (fun j hj => HALL.out j (by omega)))
      go_wp2_with fail
      go_ret
      exact ⟨by rw [HB.out]; rfl, B0.out⟩
end Dsk
namespace Ro
open Go.RowKit So Dsk Rts Sto
def dC (v : Value) (D : Dp.Dk) : Obj := .cells #[v, .int .i64 D.c, .bool D.a, .int .i64 D.l, .bool D.x] 24
def dZ : Obj := .cells #[.slice none 0 0, .int .i64 0, .bool false, .int .i64 0, .bool false] 24
def Cw (w : World) (fv0 : Value) (t : Nat) (v : Value) (D : Dp.Dk) (t1 : Nat) (o1 : Obj) (xs : List (Nat × Obj)) (W : World) : Prop :=
 t1 ≠ t ∧ (∀ p ∈ xs, p.1 ≠ t ∧ p.1 ≠ t1) ∧ Ms w w.heap.size fv0 (.slice none 0 0) ((t, dC v D) :: (t1, o1) :: xs) [(v, D.f)] [] W
section
variable {w W W' : World} {fv0 v : Value} {D D' : Dp.Dk} {t t1 : Nat} {o1 : Obj} {xs : List (Nat × Obj)}
theorem Cw.start {fv : Value} (hv : IsL FL w fv D.f) (A : Array Value) (T : TypeId) : Cw w fv w.heap.size fv D (w.heap.size + 1) (.cells A T) [] ((w.alloc (dC fv D)).alloc (.cells A T)) := by
 have M := ((Ms.start (gv := .slice none 0 0) (lg := []) hv (IsL.nil w none 0)).alloc #[fv, .int .i64 D.c, .bool D.a, .int .i64 D.l, .bool D.x] 24).alloc A T
 rw [World.size_alloc] at M
 refine ⟨by omega, fun p hp => absurd hp List.not_mem_nil, M.sub (fun p hp => ?_) (fun p hp => hp) (fun p hp => absurd hp List.not_mem_nil)⟩
 simp only [List.mem_cons, List.not_mem_nil, or_false] at hp ⊢
 rcases hp with hp | hp
 · exact .inr hp
 · exact .inl hp
theorem Cw.keep (h : Cw w fv0 t v D t1 o1 xs W) (k : Below W.heap.size W W') : Cw w fv0 t v D t1 o1 xs W' := ⟨h.1, h.2.1, h.2.2.keep k⟩
theorem Cw.d (h : Cw w fv0 t v D t1 o1 xs W) : W.heap[t]? = some (dC v D) := h.2.2.at_ mcs
theorem Cw.r (h : Cw w fv0 t v D t1 o1 xs W) : W.heap[t1]? = some o1 := h.2.2.at_ (mcm mcs)
theorem Cw.x (h : Cw w fv0 t v D t1 o1 xs W) {p : Nat × Obj} (hp : p ∈ xs) : W.heap[p.1]? = some p.2 := h.2.2.at_ (mcm (mcm hp))
theorem Cw.f (h : Cw w fv0 t v D t1 o1 xs W) : IsL FL W v D.f := h.2.2.fl mcs
theorem Cw.bw (h : Cw w fv0 t v D t1 o1 xs W) : Below w.heap.size w W := h.2.2.w
theorem Cw.lt (h : Cw w fv0 t v D t1 o1 xs W) : t < W.heap.size := h.2.2.lt mcs
theorem Cw.rlt (h : Cw w fv0 t v D t1 o1 xs W) : t1 < W.heap.size := h.2.2.lt (mcm mcs)
theorem Cw.lay (h : Cw w fv0 t v D t1 o1 xs W) {a : Option Addr} {n c : Nat} (k : DkS W v D' (.slice a n c) W') :
 ∃ Z, ((((W'.setCell ⟨t, 0, none⟩ (.slice a n c)).setCell ⟨t, 1, none⟩ (.int .i64 D'.c)).setCell ⟨t, 2, none⟩ (.bool D'.a)).setCell ⟨t, 3, none⟩ (.int .i64 D'.l)).setCell ⟨t, 4, none⟩ (.bool D'.x) = Z ∧ Cw w fv0 t (.slice a n c) D' t1 o1 xs Z ∧ W'.grownBy Z (some t) := by
 obtain ⟨Z, h1, h2⟩ := (h.2.2.call mcs k).lay5 (t := t) (cs' := (t, dC (.slice a n c) D') :: (t1, o1) :: xs) mcs (.slice a n c) (.int .i64 D'.c) (.bool D'.a) (.int .i64 D'.l) (.bool D'.x) (fun q hq => by
  rcases List.mem_cons.1 hq with rfl | hq
  · exact .inl rfl
  · refine .inr ⟨mcm hq, ?_⟩
    rcases List.mem_cons.1 hq with rfl | hq
    · exact h.1
    · exact (h.2.1 q hq).1)
 refine ⟨Z, h1, ⟨h.1, h.2.1, h2.sub (fun _ h => h) (fun p hp => by rw [List.mem_singleton] at hp; rw [hp]; exact mcs) (fun _ h => h)⟩, ?_⟩
 rw [← h1]
 exact grown5 _ _ _ _ _ _ _
theorem Cw.fin (h : Cw w fv0 t v D t1 dZ xs W) {a : Option Addr} {n c : Nat} (k : DkS W v D' (.slice a n c) W') :
 ∃ Z, ((((W'.setCell ⟨t1, 0, none⟩ (.slice a n c)).setCell ⟨t1, 1, none⟩ (.int .i64 D'.c)).setCell ⟨t1, 2, none⟩ (.bool D'.a)).setCell ⟨t1, 3, none⟩ (.int .i64 D'.l)).setCell ⟨t1, 4, none⟩ (.bool D'.x) = Z ∧ Z.heap[t1]? = some (dC (.slice a n c) D') ∧ ∀ e : Int, DkAns w fv0 (D', e) (.returned (.tuple #[dkVal (.slice a n c) D', .int .i64 e])) Z := by
 obtain ⟨Z, h1, h2⟩ := (h.2.2.call mcs k).lay5 (t := t1) (cs' := [(t1, dC (.slice a n c) D')]) (mcm mcs) (.slice a n c) (.int .i64 D'.c) (.bool D'.a) (.int .i64 D'.l) (.bool D'.x) (fun p hp => .inl (List.mem_singleton.1 hp))
 exact ⟨Z, h1, h2.at_ mcs, fun e => ⟨a, n, c, rfl, h2.dks mcs⟩⟩
theorem Cw.ret {a : Option Addr} {n c : Nat} (h : Cw w fv0 t (.slice a n c) D t1 dZ xs W) :
 ∃ Z, ((((W.setCell ⟨t1, 0, none⟩ (.slice a n c)).setCell ⟨t1, 1, none⟩ (.int .i64 D.c)).setCell ⟨t1, 2, none⟩ (.bool D.a)).setCell ⟨t1, 3, none⟩ (.int .i64 D.l)).setCell ⟨t1, 4, none⟩ (.bool D.x) = Z ∧ Z.heap[t1]? = some (dC (.slice a n c) D) ∧ ∀ e : Int, DkAns w fv0 (D, e) (.returned (.tuple #[dkVal (.slice a n c) D, .int .i64 e])) Z :=
 h.fin ⟨h.f, fun _ _ h => h, Below.refl _ _⟩
end
def NwR (w : World) (b : Nat) (fv0 gv0 : Value) (cs : List (Nat × Obj)) (fs : List (Value × List Dp.Fl)) (gs : List (Value × List Rt.Sg)) (D : Dp.Dk) (t : Nat) (W : World) : Prop := ∃ a n c, (∀ p ∈ cs, p.1 ≠ t) ∧ Ms w b fv0 gv0 ((t, dC (.slice a n c) D) :: cs) ((.slice a n c, D.f) :: fs) gs W
section
variable {w w0 Wc W5 : World} {b : Nat} {fv gv v0 : Value} {cs : List (Nat × Obj)} {fs : List (Value × List Dp.Fl)} {gs : List (Value × List Rt.Sg)} {l : List Dp.Fl} {D : Dp.Dk} {a : Option Addr} {n c : Nat}
theorem NwR.A (M : Ms w b v0 gv cs ((fv, l) :: fs) gs w0) (q : Below w0.heap.size w0 Wc) (k : DkS Wc fv D (.slice a n c) W5) : NwR w b v0 gv cs ((fv, l) :: fs) gs D W5.heap.size (W5.alloc (.cells #[.slice a n c, .int .i64 D.c, .bool D.a, .int .i64 D.l, .bool D.x] 24)) := by
 have M2 := (M.keep q).call mcs k
 exact ⟨a, n, c, fun p hp e => by have := M2.lt (t := p.1) (o := p.2) hp; omega, M2.alloc _ _⟩
theorem NwR.B (M : Ms w b v0 gv cs ((fv, l) :: fs) gs w0) (q : Below w0.heap.size w0 Wc) (k : DkS Wc fv D (.slice a n c) W5) {t : Nat} {x0 x1 x2 x3 x4 : Value} (hz : W5.heap[t]? = some (.cells #[x0, x1, x2, x3, x4] 24 (0, 0))) (h4 : w0.heap.size ≤ t) (h5 : t < Wc.heap.size) :
 NwR w b v0 gv cs ((fv, l) :: fs) gs D t (((((W5.setCell ⟨t, 0, none⟩ (.slice a n c)).setCell ⟨t, 1, none⟩ (.int .i64 D.c)).setCell ⟨t, 2, none⟩ (.bool D.a)).setCell ⟨t, 3, none⟩ (.int .i64 D.l)).setCell ⟨t, 4, none⟩ (.bool D.x)) := by
 have M2 := (M.keep q).call mcs k
 have hne : ∀ p ∈ cs, p.1 ≠ t := fun p hp e => by have := M.lt (t := p.1) (o := p.2) hp; omega
 have M3 : Ms w b v0 gv ((t, .cells #[x0, x1, x2, x3, x4] 24) :: cs) ((.slice a n c, D.f) :: (fv, l) :: fs) gs W5 := by
  refine ⟨fun p hp => ?_, fun p hp => ⟨(M2.f p hp).1, fun r hr => ?_, (M2.f p hp).2.2⟩, fun p hp => ⟨(M2.g p hp).1, fun r hr => ?_, (M2.g p hp).2.2⟩, M2.le, M2.w⟩
  · rcases List.mem_cons.1 hp with rfl | hp
    · exact ⟨by have := M.le; show b ≤ t; omega, hz⟩
    · exact M2.c p hp
  · rcases List.mem_cons.1 hr with rfl | hr
    · rcases List.mem_cons.1 hp with rfl | hp
      · exact k.s t h5 (IsL.sep_new (M.fl mcs) h4)
      · exact IsL.sep_new (M.f p hp).1 h4
    · exact (M2.f p hp).2.1 r hr
  · rcases List.mem_cons.1 hr with rfl | hr
    · exact IsL.sep_new (M.g p hp).1 h4
    · exact (M2.g p hp).2.1 r hr
 obtain ⟨Z, hZ, M4⟩ := M3.lay5 (t := t) (cs' := (t, dC (.slice a n c) D) :: cs) mcs (.slice a n c) (.int .i64 D.c) (.bool D.a) (.int .i64 D.l) (.bool D.x) (fun r hr => by
  rcases List.mem_cons.1 hr with rfl | hr
  · exact .inl rfl
  · exact .inr ⟨mcm hr, hne r hr⟩)
 rw [hZ]
 exact ⟨a, n, c, hne, M4⟩
end
structure Rw (w : World) (fv0 lv : Value) (P : World → Prop) (l U : List ByteArray) (R : Dp.Dk × Int) (k : Nat) (v : Value) (D : Dp.Dk) (t1 j : Nat) (W : World) : Prop where
 c : Cw w fv0 w.heap.size v D t1 dZ [] W
 i : IsL Dsk.SL W lv l
 s : P W
 b : Bd D (k + j)
 e : Lg.sweepT U D (l.drop j) = R
theorem cleared14_any (fa : Option Addr) (fn fc : Nat) (D : Dp.Dk) (mv : Value) (U : List ByteArray) (w : World) (k : Nat) (hv : IsL FL w (.slice fa fn fc) D.f) (hS : Bd D k) (hk : k ≤ 10000) (hm : IsSet w mv U) :
 Calls Tryz.prog 48 #[dkVal (.slice fa fn fc) D, mv] w (DkAns w (.slice fa fn fc) (Lg.sweep D U)) := by
 obtain ⟨l, hl⟩ : ∃ l, D.f.map (·.n) = l := ⟨_, rfl⟩
 have hll : l.length ≤ 10000 := by rw [← hl, List.length_map]; have := hS.n; omega
 have hsz : ∀ n ∈ l, n.size ≤ 32 := fun n hn => by
  rw [← hl] at hn
  obtain ⟨f, hf, rfl⟩ := List.mem_map.1 hn
  exact (hS.r.1 f hf).1.2
 have NM := zid fun (W : World) (h : IsL FL W (.slice fa fn fc) D.f) => names_any (.slice fa fn fc) D W h (by have := hS.n; omega)
 rw [hl] at NM
 have HSW := zid (show Lg.sweepT U D l = Lg.sweep D U by rw [← hl]; rfl)
 obtain ⟨R, hR⟩ : ∃ R, Lg.sweep D U = R := ⟨_, rfl⟩
 rw [hR] at HSW
 rw [hR]
 have C0 := zid (Cw.start (w := w) hv #[.slice none 0 0, .int .i64 0, .bool false, .int .i64 0, .bool false] 24)
 have HSZ := zid hsz
 have HML := zid fun b (e : mv = .map (some b)) => (show b ≠ w.heap.size by have := hm.lt b e; omega)
 have HS := zid hS
 have HM := zid hm
 unfold dkVal at NM
 clear hv hR hl hsz hS hm
 unfold dkVal
 go_enter Tryz.func48, Tryz.ntmps48
 go_upto_region 1 with (fail)
 obtain ⟨w0, hw0⟩ : ∃ w0, (w.alloc (.cells #[.slice fa fn fc, .int .i64 D.c, .bool D.a, .int .i64 D.l, .bool D.x] 24)).alloc (.cells #[.slice none 0 0, .int .i64 0, .bool false, .int .i64 0, .bool false] 24) = w0 := ⟨_, rfl⟩
 unfold dC at C0
 rw [hw0] at C0 ⊢
 have C0 := zid (show Cw w (.slice fa fn fc) w.heap.size (.slice fa fn fc) D (w.heap.size + 1) dZ [] w0 from C0.out)
 have HM0 := zid (HM.out.keep C0.out.bw)
 clear hw0 HM
 obtain ⟨p0, p1, p2, p3, p4⟩ := cells5 C0.out.d
 go_wp2_with fail
 refine (NM.out _ C0.out.f).mono ?_
 rintro e w1 ⟨lv, rfl, ho, b1⟩
 have hol : IsL Dsk.SL w1 lv l := ho.is (by unfold maxLen; omega) (fun _ _ => trivial)
 obtain ⟨la, lc, rfl, _⟩ := id hol
 have HSP := zid (own_sep ho C0.out.lt)
 obtain ⟨ln, hln⟩ : ∃ ln, l.length = ln := ⟨_, rfl⟩
 rw [hln] at hll
 have HLN := zid hln
 have HOL := zid (show IsL Dsk.SL w1 (.slice la ln lc) l by rw [← hln]; exact hol)
 have C1 := zid (show Rw w (.slice fa fn fc) (.slice la ln lc) (fun W => IsSet W mv U) l U R k (.slice fa fn fc) D (w.heap.size + 1) 0 w1 from ⟨C0.out.keep b1, HOL.out, HM0.out.keep b1, HS.out, HSW.out⟩)
 rw [hln] at HSP ⊢
 clear ho hol hln b1 C0 HM0 HS HSW NM p0 p1 p2 p3 p4 HOL
 go_wp2_with fail
 go_loopw [12] (fun i wr => ∃ j : Nat, j ≤ ln ∧ i = .int .i64 j ∧ ∃ a n c Dj, Hid (Rw w (.slice fa fn fc) (.slice la ln lc) (fun W => IsSet W mv U) l U R k (.slice a n c) Dj (w.heap.size + 1) j wr)) (fun i _ => ln - (intOf i).toNat)
 case atStart => exact ⟨0, Nat.zero_le _, rfl, _, _, _, _, C1⟩
 case round =>
  clear C1
  obtain ⟨j, hj, rfl, a, n, c, Dj, HR⟩ := hrel
  obtain ⟨p0, p1, p2, p3, p4⟩ := cells5 HR.out.c.d
  by_cases hlt : j < ln
  · obtain ⟨ab, ao, rfl, c0⟩ := sl_at HR.out.i hlt
    have hjl : j < l.length := by rw [HLN.out]; exact hlt
    have hns := HSZ.out (l.getD j ⟨#[]⟩) (by rw [getD_lt hjl]; exact List.getElem_mem _)
    have HD := zid (show l.drop j = l.getD j ⟨#[]⟩ :: l.drop (j + 1) by rw [getD_lt hjl]; exact List.drop_eq_getElem_cons hjl)
    generalize l.getD j ⟨#[]⟩ = nn at c0 hns HD
    have hml : nn.size ≤ maxLen := by unfold maxLen; omega
    by_cases hu : nn ∈ U
    · have HN := zid (show Lg.sweepT U Dj (l.drop (j + 1)) = R by rw [← HR.out.e, HD.out, Lg.sweepT_use hu])
      have hlk := HR.out.s.yes hml hu
      clear hu HD hjl hml
      go_wp2_with fail
      go_roundw
      case rel => exact ⟨j + 1, by omega, by go_num, a, n, c, Dj, zid ⟨HR.out.c, HR.out.i, HR.out.s, HR.out.b.mono (by omega), HN.out⟩⟩
      case measure => simp [intOf]; omega
    · have HE := zid (fun h : (Dp.delete Dj nn).2 ≠ 0 => show R = Dp.delete Dj nn by rw [← HR.out.e, HD.out, Lg.sweepT_err hu h])
      have HN := zid (fun h : (Dp.delete Dj nn).2 = 0 => show Lg.sweepT U (Dp.delete Dj nn).1 (l.drop (j + 1)) = R by rw [← HR.out.e, HD.out, Lg.sweepT_go hu h])
      have HB := zid (bd_delete HR.out.b nn)
      have DL := fun (W : World) (h : IsL FL W (.slice a n c) Dj.f) => delete_s HR.out.b (by omega) nn h
      obtain ⟨⟨T, E⟩, hT⟩ : ∃ X, Dp.delete Dj nn = X := ⟨_, rfl⟩
      rw [hT] at HE HN HB DL
      dsimp only at HE HN HB
      unfold dkVal at DL
      replace DL := zid DL
      have hlk := HR.out.s.no hml hu
      clear hu HD hT hjl hml
      go_wp2_with fail
      refine (DL.out _ HR.out.c.f).mono ?_
      rintro e w5 ⟨b5, n5, c5, rfl, ks⟩
      have HK := zid (And.intro (HR.out.i.keep ks.w) (HR.out.s.keep ks.w))
      obtain ⟨y0, y1, y2, y3, y4⟩ := cells5 (hkeep HR.out.c.d ks.w)
      obtain ⟨yf0, yf1, yf2, yf3, yf4⟩ := frozen5 (hkeep HR.out.c.d ks.w)
      have LY := zid (HR.out.c.lay ks)
      clear p0 p1 p2 p3 p4 ks DL hlk c0
      unfold dkVal
      go_upto_region 7 with (fail)
      obtain ⟨Z, hZ, CZ, gZ⟩ := LY.out
      rw [hZ]
      have HRZ := zid (show IsL Dsk.SL Z _ l ∧ IsSet Z mv U from ⟨IsL.grown12 HK.out.1 gZ (fun q e => by injection e with e; rw [← e]; exact HSP.out), HK.out.2.kept gZ (fun b e h => HML.out b e (by injection h))⟩)
      have HCZ := zid CZ
      clear hZ CZ gZ LY y0 y1 y2 y3 y4 yf0 yf1 yf2 yf3 yf4 HK HR
      by_cases hE : E = 0
      · subst hE
        replace HN := zid (HN.out rfl)
        clear HE
        go_wp2_with fail
        go_roundw
        case rel => exact ⟨j + 1, by omega, by go_num, b5, n5, c5, T, zid ⟨HCZ.out, HRZ.out.1, HRZ.out.2, HB.out, HN.out⟩⟩
        case measure => simp [intOf]; omega
      · replace HE := zid (HE.out hE)
        have hE' := ne_b hE
        obtain ⟨p0, p1, p2, p3, p4⟩ := cells5 HCZ.out.d
        obtain ⟨z0, z1, z2, z3, z4⟩ := cells5 HCZ.out.r
        obtain ⟨zf0, zf1, zf2, zf3, zf4⟩ := frozen5 HCZ.out.r
        clear HN hE
        go_wp2_with fail
        obtain ⟨Y, hY, hr, hA⟩ := HCZ.out.ret
        rw [hY]
        obtain ⟨x0, x1, x2, x3, x4⟩ := cells5 hr
        refine bodyPost_ret (v := .tuple #[dkVal (.slice b5 n5 c5) T, .int .i64 E]) (by unfold dkVal; simp [results, Tryz.results48, go_sem, x0, x1, x2, x3, x4]) rfl ?_
        rw [HE.out]
        exact hA E
  · have HF := zid (show R = (Dj, 0) by rw [← HR.out.e, List.drop_of_length_le (by rw [HLN.out]; omega)]; rfl)
    obtain ⟨z0, z1, z2, z3, z4⟩ := cells5 HR.out.c.r
    obtain ⟨zf0, zf1, zf2, zf3, zf4⟩ := frozen5 HR.out.c.r
    go_wp2_with fail
    obtain ⟨Y, hY, hr, hA⟩ := HR.out.c.ret
    rw [hY]
    obtain ⟨x0, x1, x2, x3, x4⟩ := cells5 hr
    refine bodyPost_ret (v := .tuple #[dkVal (.slice a n c) Dj, .int .i64 0]) (by unfold dkVal; simp [results, Tryz.results48, go_sem, x0, x1, x2, x3, x4]) rfl ?_
    rw [HF.out]
    exact hA 0
end Ro
end Go.Proofs.YtooipogbmfkeeaaGreat

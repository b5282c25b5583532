/-
  What the document's Add and Find answer.
-/
import Derived.Test.YtailajcepjklaaaMarkVal
import Derived.Laws.AppendOwnNone
import Derived.Outline
namespace Go.Proofs.Ytailajcepjklaaa.Mks
open Go.RowKit Go.Proofs.Ytailajcepjklaaa.Mp

theorem own_lo {α : Type} {Y : Lay α} {w : World} {B B' : Nat} {v : Value} {l : List α} (h : OwnL Y w B v l) (hb : B' ≤ B) : OwnL Y w B' v l := by
  refine ⟨h.1, ?_⟩
  rcases h.2 with h0 | ⟨g, cap, cur, h1, h2, h3⟩
  · exact .inl h0
  · exact .inr ⟨g, cap, cur, h1, Nat.le_trans hb h2, h3⟩
theorem vals_len (l : List Mk) : (ML.vals l).length = l.length * 2 := ML.vals_len l
theorem mbox_grown {w w3 : World} {mo mp : Int} {ob : Option Nat} (hg : ((w.alloc (.cells #[.int .i64 mo, .int .i64 mp] 24)).alloc (.cells #[] 24)).grownBy w3 ob) (ho : ∀ k, ob = some k → w.heap.size + 1 ≤ k) :
    w3.cell? ⟨w.heap.size, 0, none⟩ = some (.int .i64 mo) ∧ w3.cell? ⟨w.heap.size, 1, none⟩ = some (.int .i64 mp) ∧ Below w.heap.size w w3 ∧ w.heap.size + 2 ≤ w3.heap.size := by
  have b : Below (w.heap.size + 1) ((w.alloc (.cells #[.int .i64 mo, .int .i64 mp] 24)).alloc (.cells #[] 24)) w3 := (Below.refl _ _).grown hg (by simp) ho
  have b1 : Below w.heap.size w ((w.alloc (.cells #[.int .i64 mo, .int .i64 mp] 24)).alloc (.cells #[] 24)) := ((Below.refl _ _).alloc (Nat.le_refl _) _).alloc (by simp) _
  have h : ((w.alloc (.cells #[.int .i64 mo, .int .i64 mp] 24)).alloc (.cells #[] 24)).heap[w.heap.size]? = some (.cells #[.int .i64 mo, .int .i64 mp] 24 (0, 0)) := by
    rw [heap_alloc_old _ _ (by simp)]; exact heap_alloc_new w _
  have h3 := (b.block w.heap.size (by omega)).trans h
  refine ⟨cell_of_row _ _ 0 _ _ _ h3 ▸ rfl, cell_of_row _ _ 1 _ _ _ h3 ▸ rfl, b1.trans (b.mono (by omega)), by have := b.size; simp at this; omega⟩

set_option maxHeartbeats 3200000 in
set_option maxRecDepth 100000 in
theorem radd08_some_no (x : Addr) (cap : Nat) (l : List Mk) (base every : Int) (m : Mk) (w : World) (hl : l.length ≤ 1000000000) (hc : ∀ j u, (ML.vals l)[j]? = some u → w.cell? (x.add j) = some u) (h0 : 0 ≤ base) (h1 : base ≤ m.o) (h2 : 1 ≤ every) (h3 : m.o ≤ 9223372036854775807) (h4 : every ≤ 9223372036854775807) (hr : (m.o - base) % every ≠ 0) :
    Calls Try.prog 11 #[.slice (some x) l.length cap, .int .i64 base, .int .i64 every, mkVal m] w (OutL ML w w.heap.size l) := by
  obtain ⟨i0, hi0, hz0, hz1, hz2⟩ := info_parts info_mk
  obtain ⟨mo, mp⟩ := m
  unfold mkVal
  dsimp only at *
  have hd1 : 0 ≤ mo - base := by omega
  have hmod : (mo - base).tmod every = (mo - base) % every := Int.tmod_eq_emod_of_nonneg hd1
  have hown := World.ownsRow_made (e := 24) (size := 2) (base := w.heap.size + 1) (w.alloc (.cells #[.int .i64 mo, .int .i64 mp] 24)) #[] 0 (by simp) (Nat.zero_le _) (by simp)
  rw [show (w.alloc (.cells #[.int .i64 mo, .int .i64 mp] 24)).heap.size = w.heap.size + 1 by simp] at hown
  replace hown := Lib.hid hown
  have HC : Hid (∀ j u, (ML.vals l)[j]? = some u → ((w.alloc (.cells #[.int .i64 mo, .int .i64 mp] 24)).alloc (.cells #[] 24)).cell? (x.add j) = some u) := fun j u hj => Lib.cell?_alloc_some _ (Lib.cell?_alloc_some _ (hc j u hj))
  have H1 := Lib.hid (ML.vals_cells l)
  have HL := Lib.hid (vals_len l)
  have HF : Hid (∀ v' w3, w3.ownsRow (w.heap.size + 1) 24 2 v' l.length (ML.vals l) → OwnL ML w3 (w.heap.size + 1) v' l) := fun v' w3 h => h
  have H2 := Lib.hid (show ∀ u ∈ mkCells ⟨mo, mp⟩, u.oneCell' = true from ML.one ⟨mo, mp⟩)
  clear hc
  generalize ML.vals l = xs at *
  generalize hll : l.length = len at *
  clear hll
  have hz : ((mo - base) % every == 0) = false := by simpa using hr
  clear hr
  go_enter Try.func11, Try.ntmps11
  go_wp2_with (at_builtin; refine wpList_append_own _ rfl _ _ 22 rfl (w.heap.size + 1) 24 i0 (.agg #[.int .i64 0, .int .i64 0]) 2 16 Try.underlying22 hi0 hz0 hz1 hz2 rfl (by decide) _ _ _ rfl hown.out x len cap xs rfl HL.out HC.out H1.out (by unfold maxLen; omega) (by omega) (by simp) ?_; intro v1 w3 hown1 hgrow1 hnil1; obtain ⟨c0, c1, bw, hws⟩ := mbox_grown hgrow1 (fun k hk => (hown.out.lt k hk).1); rw [Nat.zero_add, List.nil_append] at hown1; have HO1 := Lib.hid hown1; have BW := Lib.hid bw; clear hown1 hgrow1 hnil1 bw)
  go_ret
  exact OutL.mk (own_lo (HF.out _ _ HO1.out) (Nat.le_succ _)) BW.out

set_option maxHeartbeats 3200000 in
set_option maxRecDepth 100000 in
theorem radd08_none_no (base every : Int) (m : Mk) (w : World) (h0 : 0 ≤ base) (h1 : base ≤ m.o) (h2 : 1 ≤ every) (h3 : m.o ≤ 9223372036854775807) (h4 : every ≤ 9223372036854775807) (hr : (m.o - base) % every ≠ 0) :
    Calls Try.prog 11 #[.slice none 0 0, .int .i64 base, .int .i64 every, mkVal m] w (OutL ML w w.heap.size []) := by
  obtain ⟨i0, hi0, hz0, hz1, hz2⟩ := info_parts info_mk
  obtain ⟨mo, mp⟩ := m
  unfold mkVal
  dsimp only at *
  have hd1 : 0 ≤ mo - base := by omega
  have hmod : (mo - base).tmod every = (mo - base) % every := Int.tmod_eq_emod_of_nonneg hd1
  have hown := World.ownsRow_made (e := 24) (size := 2) (base := w.heap.size + 1) (w.alloc (.cells #[.int .i64 mo, .int .i64 mp] 24)) #[] 0 (by simp) (Nat.zero_le _) (by simp)
  rw [show (w.alloc (.cells #[.int .i64 mo, .int .i64 mp] 24)).heap.size = w.heap.size + 1 by simp] at hown
  replace hown := Lib.hid hown
  have HF : Hid (∀ v' w3, w3.ownsRow (w.heap.size + 1) 24 2 v' ([] : List Mk).length (ML.vals ([] : List Mk)) → OwnL ML w3 (w.heap.size + 1) v' ([] : List Mk)) := fun v' w3 h => h
  have H2 := Lib.hid (show ∀ u ∈ mkCells ⟨mo, mp⟩, u.oneCell' = true from ML.one ⟨mo, mp⟩)
  have hz : ((mo - base) % every == 0) = false := by simpa using hr
  clear hr
  go_enter Try.func11, Try.ntmps11
  go_wp2_with (at_builtin; refine wpList_append_own_none rfl _ _ 22 rfl (w.heap.size + 1) 24 i0 2 Try.underlying22 hi0 _ 0 [] rfl hown.out rfl ?_)
  go_ret
  exact OutL.mk (own_lo (HF.out _ _ hown.out) (Nat.le_succ _)) (((Below.refl w.heap.size w).alloc (Nat.le_refl _) _).alloc (by simp) _)

set_option maxHeartbeats 3200000 in
set_option maxRecDepth 100000 in
theorem radd08_some_yes (x : Addr) (cap : Nat) (l : List Mk) (base every : Int) (m : Mk) (w : World) (hl : l.length ≤ 1000000000) (hc : ∀ j u, (ML.vals l)[j]? = some u → w.cell? (x.add j) = some u) (h0 : 0 ≤ base) (h1 : base ≤ m.o) (h2 : 1 ≤ every) (h3 : m.o ≤ 9223372036854775807) (h4 : every ≤ 9223372036854775807) (hr : (m.o - base) % every = 0) :
    Calls Try.prog 11 #[.slice (some x) l.length cap, .int .i64 base, .int .i64 every, mkVal m] w (OutL ML w w.heap.size (l ++ [m])) := by
  obtain ⟨i0, hi0, hz0, hz1, hz2⟩ := info_parts info_mk
  obtain ⟨mo, mp⟩ := m
  unfold mkVal
  dsimp only at *
  have hd1 : 0 ≤ mo - base := by omega
  have hmod : (mo - base).tmod every = (mo - base) % every := Int.tmod_eq_emod_of_nonneg hd1
  have hown := World.ownsRow_made (e := 24) (size := 2) (base := w.heap.size + 1) (w.alloc (.cells #[.int .i64 mo, .int .i64 mp] 24)) #[] 0 (by simp) (Nat.zero_le _) (by simp)
  rw [show (w.alloc (.cells #[.int .i64 mo, .int .i64 mp] 24)).heap.size = w.heap.size + 1 by simp] at hown
  replace hown := Lib.hid hown
  have HC : Hid (∀ j u, (ML.vals l)[j]? = some u → ((w.alloc (.cells #[.int .i64 mo, .int .i64 mp] 24)).alloc (.cells #[] 24)).cell? (x.add j) = some u) := fun j u hj => Lib.cell?_alloc_some _ (Lib.cell?_alloc_some _ (hc j u hj))
  have H1 := Lib.hid (ML.vals_cells l)
  have HL := Lib.hid (vals_len l)
  have HF : Hid (∀ v' w3, w3.ownsRow (w.heap.size + 1) 24 2 v' (l.length + 1) (ML.vals l ++ mkCells ⟨mo, mp⟩) → OwnL ML w3 (w.heap.size + 1) v' (l ++ [⟨mo, mp⟩])) := fun v' w3 h => OwnL.snoc (n := l.length) h rfl rfl
  have H2 := Lib.hid (show ∀ u ∈ mkCells ⟨mo, mp⟩, u.oneCell' = true from ML.one ⟨mo, mp⟩)
  clear hc
  generalize ML.vals l = xs at *
  generalize hll : l.length = len at *
  clear hll
  have hz : ((mo - base) % every == 0) = true := by simpa using hr
  have hz' : (mo - base) % every = 0 := hr
  clear hr
  go_enter Try.func11, Try.ntmps11
  go_wp2_with (first | (at_builtin; refine wpList_append_own _ rfl _ _ 22 rfl (w.heap.size + 1) 24 i0 (.agg #[.int .i64 0, .int .i64 0]) 2 16 Try.underlying22 hi0 hz0 hz1 hz2 rfl (by decide) _ _ _ rfl hown.out x len cap xs rfl HL.out HC.out H1.out (by unfold maxLen; omega) (by omega) (by simp) ?_; intro v1 w3 hown1 hgrow1 hnil1; obtain ⟨c0, c1, bw, hws⟩ := mbox_grown hgrow1 (fun k hk => (hown.out.lt k hk).1); rw [Nat.zero_add, List.nil_append] at hown1; have HO1 := Lib.hid hown1; have BW := Lib.hid bw; clear hown1 hgrow1 hnil1 bw; have HNEW := Lib.hid (news_new w3 w3.heap.size (mkCells ⟨mo, mp⟩) 24 rfl); have HOA := Lib.hid (show (w3.alloc (.cells (mkCells ⟨mo, mp⟩).toArray 24)).ownsRow (w.heap.size + 1) 24 2 v1 len xs from HO1.out.alloc _)) | (at_builtin; refine wpList_append_own _ rfl _ _ 22 rfl (w.heap.size + 1) 24 i0 (.agg #[.int .i64 0, .int .i64 0]) 2 16 Try.underlying22 hi0 hz0 hz1 hz2 rfl (by decide) _ _ _ rfl HOA.out ⟨w3.heap.size, 0, none⟩ 1 1 (mkCells ⟨mo, mp⟩) rfl rfl HNEW.out H2.out (by unfold maxLen; omega) (by omega) (by simp <;> omega) ?_; intro v2 w4 hown2 hgrow2 hnil2))
  go_ret
  exact OutL.mk (own_lo (HF.out _ _ hown2) (Nat.le_succ _)) ((BW.out.alloc (by omega) _).grown hgrow2 (by simp <;> omega) (fun k hk => by have := (HOA.out.lt k hk).1; omega))

set_option maxHeartbeats 3200000 in
set_option maxRecDepth 100000 in
theorem radd08_none_yes (base every : Int) (m : Mk) (w : World) (h0 : 0 ≤ base) (h1 : base ≤ m.o) (h2 : 1 ≤ every) (h3 : m.o ≤ 9223372036854775807) (h4 : every ≤ 9223372036854775807) (hr : (m.o - base) % every = 0) :
    Calls Try.prog 11 #[.slice none 0 0, .int .i64 base, .int .i64 every, mkVal m] w (OutL ML w w.heap.size ([] ++ [m])) := by
  obtain ⟨i0, hi0, hz0, hz1, hz2⟩ := info_parts info_mk
  obtain ⟨mo, mp⟩ := m
  unfold mkVal
  dsimp only at *
  have hd1 : 0 ≤ mo - base := by omega
  have hmod : (mo - base).tmod every = (mo - base) % every := Int.tmod_eq_emod_of_nonneg hd1
  have hown := World.ownsRow_made (e := 24) (size := 2) (base := w.heap.size + 1) (w.alloc (.cells #[.int .i64 mo, .int .i64 mp] 24)) #[] 0 (by simp) (Nat.zero_le _) (by simp)
  rw [show (w.alloc (.cells #[.int .i64 mo, .int .i64 mp] 24)).heap.size = w.heap.size + 1 by simp] at hown
  replace hown := Lib.hid hown
  have HF : Hid (∀ v' w3, w3.ownsRow (w.heap.size + 1) 24 2 v' (([] : List Mk).length + 1) (ML.vals ([] : List Mk) ++ mkCells ⟨mo, mp⟩) → OwnL ML w3 (w.heap.size + 1) v' (([] : List Mk) ++ [⟨mo, mp⟩])) := fun v' w3 h => OwnL.snoc (n := ([] : List Mk).length) h rfl rfl
  have H2 := Lib.hid (show ∀ u ∈ mkCells ⟨mo, mp⟩, u.oneCell' = true from ML.one ⟨mo, mp⟩)
  have hz : ((mo - base) % every == 0) = true := by simpa using hr
  have hz' : (mo - base) % every = 0 := hr
  clear hr
  go_enter Try.func11, Try.ntmps11
  have HNEW := Lib.hid (news_new ((w.alloc (.cells #[.int .i64 mo, .int .i64 mp] 24)).alloc (.cells #[] 24)) (w.heap.size + 1 + 1) (mkCells ⟨mo, mp⟩) 24 (by simp))
  have HOA := Lib.hid (show (((w.alloc (.cells #[.int .i64 mo, .int .i64 mp] 24)).alloc (.cells #[] 24)).alloc (.cells (mkCells ⟨mo, mp⟩).toArray 24)).ownsRow (w.heap.size + 1) 24 2 (.slice (some ⟨w.heap.size + 1, 0, none⟩) 0 0) 0 [] from hown.out.alloc _)
  go_wp2_with (first | (at_builtin; refine wpList_append_own_none rfl _ _ 22 rfl (w.heap.size + 1) 24 i0 2 Try.underlying22 hi0 _ 0 [] rfl hown.out rfl ?_) | (at_builtin; refine wpList_append_own _ rfl _ _ 22 rfl (w.heap.size + 1) 24 i0 (.agg #[.int .i64 0, .int .i64 0]) 2 16 Try.underlying22 hi0 hz0 hz1 hz2 rfl (by decide) _ _ _ rfl HOA.out ⟨w.heap.size + 1 + 1, 0, none⟩ 1 1 (mkCells ⟨mo, mp⟩) rfl rfl HNEW.out H2.out (by unfold maxLen; omega) (by omega) (by simp <;> omega) ?_; intro v2 w4 hown2 hgrow2 hnil2))
  go_ret
  exact OutL.mk (own_lo (HF.out _ _ hown2) (Nat.le_succ _)) (((((Below.refl w.heap.size w).alloc (Nat.le_refl _) _).alloc (by simp) _).alloc (by simp <;> omega) _).grown hgrow2 (by simp <;> omega) (fun k hk => by have := (HOA.out.lt k hk).1; omega))

/-- A slice that is nil has no room. -/
def NilOk (v : Value) : Prop := ∀ n c, v = .slice none n c → c = 0
theorem radd08_any (v : Value) (l : List Mk) (base every : Int) (m : Mk) (w : World) (hv : IsL ML w v l) (hn : NilOk v) (hl : l.length ≤ 1000000000) (h0 : 0 ≤ base) (h1 : base ≤ m.o) (h2 : 1 ≤ every) (h3 : m.o ≤ 9223372036854775807) (h4 : every ≤ 9223372036854775807) :
    Calls Try.prog 11 #[v, .int .i64 base, .int .i64 every, mkVal m] w (OutL ML w w.heap.size (add l base every m)) := by
  unfold add
  obtain ⟨a, cap, rfl, _, _, hc⟩ := hv
  have key : ∀ x : Addr, a = some x → (∀ j u, (ML.vals l)[j]? = some u → w.cell? (x.add j) = some u) → Calls Try.prog 11 #[.slice a l.length cap, .int .i64 base, .int .i64 every, mkVal m] w (OutL ML w w.heap.size (if (m.o - base) % every = 0 then l ++ [m] else l)) := by
    rintro x rfl hx
    by_cases hr : (m.o - base) % every = 0
    · rw [if_pos hr]; exact radd08_some_yes x cap l base every m w hl hx h0 h1 h2 h3 h4 hr
    · rw [if_neg hr]; exact radd08_some_no x cap l base every m w hl hx h0 h1 h2 h3 h4 hr
  rcases hc with rfl | ⟨b, off, rfl, hc⟩
  · cases a with
    | some x => exact key x rfl (fun j u hj => by simp [Lay.vals] at hj)
    | none =>
      obtain rfl := hn _ _ rfl
      by_cases hr : (m.o - base) % every = 0
      · rw [if_pos hr]; exact radd08_none_yes base every m w h0 h1 h2 h3 h4 hr
      · rw [if_neg hr]; exact radd08_none_no base every m w h0 h1 h2 h3 h4 hr
  · exact key _ rfl (fun j u hj => by rw [addr_plain]; exact hc j u hj)

theorem frozen2 {W : World} {k : Nat} {T : TypeId} {cs : Array Value} (h : W.heap[k]? = some (.cells cs T (0, 0))) : W.frozen? ⟨k, 0, none⟩ = false ∧ W.frozen? ⟨k, 1, none⟩ = false := by
  constructor <;> (unfold World.frozen?; rw [h]; rfl)
/-- What is found: the last of the first n. -/
def fndVal (l : List Mk) (n : Nat) : Value := match n with | 0 => .tuple #[.agg #[.int .i64 0, .int .i64 0], .bool false] | n + 1 => .tuple #[.agg #[.int .i64 (l.getD n zero).o, .int .i64 (l.getD n zero).p], .bool true]

set_option maxHeartbeats 3200000 in
set_option maxRecDepth 100000 in
theorem rfind08_any (v : Value) (l : List Mk) (off : Int) (n : Nat) (w : World) (hv : IsL ML w v l) (hn : Split l off n) :
    Calls Try.prog 13 #[v, .int .i64 off] w fun e w' => e = .returned (fndVal l n) ∧ Below w.heap.size w w' := by
  obtain ⟨fa, fn, fc, rfl⟩ : ∃ a n c, v = .slice a n c := by obtain ⟨a, c, h, _⟩ := hv; exact ⟨a, _, c, h⟩
  have HV := Lib.hid hv
  have hfl := hv.len.1
  have hl := hv.len.2
  unfold maxLen at hl
  have hl2 : l.length ≤ 9223372036854775807 := by omega
  clear hl
  have H0 := Lib.hid (show (∀ j, 0 ≤ j → j < l.length → off < (l.getD j zero).o) → fndVal l n = .tuple #[.agg #[.int .i64 0, .int .i64 0], .bool false] from fun h => by
    obtain ⟨a1, a2, a3⟩ := hn
    cases n with
    | zero => rfl
    | succ n => have := a2 n (by omega); have := h n (Nat.zero_le _) (by omega); omega)
  have HJ := Lib.hid (show ∀ j, j < l.length → (∀ i, j + 1 ≤ i → i < l.length → off < (l.getD i zero).o) → (l.getD j zero).o ≤ off → fndVal l n = .tuple #[.agg #[.int .i64 (l.getD j zero).o, .int .i64 (l.getD j zero).p], .bool true] from fun j hj h ho => by
    obtain ⟨a1, a2, a3⟩ := hn
    have e : n = j + 1 := by
      rcases Nat.lt_trichotomy n (j + 1) with h1 | h1 | h1
      · have := a3 j (by omega) hj; omega
      · exact h1
      · have := a2 (j + 1) h1; have := h (j + 1) (Nat.le_refl _) (by omega); omega
    subst e
    rfl)
  rw [← hfl] at hl2 H0 HJ
  generalize fndVal l n = V at *
  have HA := Lib.hid ((Below.refl w.heap.size w).alloc (Nat.le_refl _) (.cells #[.int .i64 0, .int .i64 0] 24))
  have G0 := Lib.hid (heap_alloc_new w (.cells #[.int .i64 0, .int .i64 0] 24))
  clear hv hn hfl
  go_enter Try.func13, Try.ntmps13
  go_wp2_with fail
  generalize World.alloc w _ = w0 at HA G0 ⊢
  obtain ⟨f0, f1⟩ := frozen2 G0.out
  obtain ⟨z0, z1⟩ : w0.cell? ⟨w.heap.size, 0, none⟩ = some (.int .i64 0) ∧ w0.cell? ⟨w.heap.size, 1, none⟩ = some (.int .i64 0) := ⟨by rw [cell_of_row _ _ 0 _ _ _ G0.out]; rfl, by rw [cell_of_row _ _ 1 _ _ _ G0.out]; rfl⟩
  go_loop [6] (fun i => ∃ k : Nat, k ≤ fn ∧ i = .int .i64 ((k : Int) - 1) ∧ (∀ j, k ≤ j → j < fn → off < (l.getD j zero).o)) (fun i => (intOf i + 1).toNat)
  case atStart => exact ⟨fn, Nat.le_refl _, rfl, fun j hj hl => absurd hl (by omega)⟩
  case round =>
    obtain ⟨k, hk, rfl, hall⟩ := hrel
    have HALL := Lib.hid hall
    clear hall
    cases k with
    | zero =>
      have HVV := Lib.hid (H0.out fun j h0 hj => HALL.out j h0 hj)
      go_wp2_with fail
      refine bodyPost_ret (v := .tuple #[.agg #[.int .i64 0, .int .i64 0], .bool false]) (by simp [results, Try.results13, go_sem, z0, z1]) rfl ?_
      exact ⟨by rw [HVV.out], (HA.out.setCell (p := ⟨w.heap.size, 0, none⟩) (Nat.le_refl _) _).setCell (p := ⟨w.heap.size, 1, none⟩) (Nat.le_refl _) _⟩
    | succ j =>
      obtain ⟨b, o, rfl, c0, c1⟩ := mk_at (HV.out.keep HA.out) (show j < fn by omega)
      by_cases ho : (l.getD j zero).o ≤ off
      · have HVV := Lib.hid (HJ.out j (by omega) (fun i hi hl => HALL.out i hi hl) ho)
        generalize l.getD j zero = f at *
        go_wp2_with fail
        refine bodyPost_ret (v := .tuple #[.agg #[.int .i64 f.o, .int .i64 f.p], .bool true]) (by simp [results, Try.results13, go_sem, z0, z1]) rfl ?_
        exact ⟨by rw [HVV.out], (HA.out.setCell (p := ⟨w.heap.size, 0, none⟩) (Nat.le_refl _) _).setCell (p := ⟨w.heap.size, 1, none⟩) (Nat.le_refl _) _⟩
      · have HNX := Lib.hid (show ∀ i, j ≤ i → i < fn → off < (l.getD i zero).o from fun i hi hl => by
          by_cases e : i = j
          · subst e; omega
          · exact HALL.out i (by omega) hl)
        generalize l.getD j zero = f at c0 c1 ho
        go_wp2_with fail
        go_round
        case rel => exact ⟨j, by omega, by go_num, HNX.out⟩
        case measure => simp [intOf]

end Go.Proofs.Ytailajcepjklaaa.Mks

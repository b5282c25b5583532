/-
  What the document's Add and Find answer.
-/
import Derived.Test.YtfodcgipdhppmaaMarkVal
import Derived.Laws.AppendOwnNone
import Derived.Outline
namespace Go.Proofs.Ytfodcgipdhppmaa.Mks
open Go.RowKit Go.Proofs.Ytfodcgipdhppmaa.Mp

theorem own_lo {α : Type} {Y : Lay α} {w : World} {B B' : Nat} {v : Value} {l : List α} (h : OwnL Y w B v l) (hb : B' ≤ B) : OwnL Y w B' v l := by
  refine ⟨h.1, ?_⟩
  rcases h.2 with h0 | ⟨g, cap, cur, h1, h2, h3⟩
  · exact .inl h0
  · exact .inr ⟨g, cap, cur, h1, Nat.le_trans hb h2, h3⟩
theorem vals_len (l : List Mk) : (ML.vals l).length = l.length * 2 := ML.vals_len l
theorem mbox_grown {w w3 : World} {mo mp : Int} {ob : Option Nat} (hg : ((w.alloc (.cells #[.int .i64 mo, .int .i64 mp] 58)).alloc (.cells #[] 58)).grownBy w3 ob) (ho : ∀ k, ob = some k → w.heap.size + 1 ≤ k) :
    w3.cell? ⟨w.heap.size, 0, none⟩ = some (.int .i64 mo) ∧ w3.cell? ⟨w.heap.size, 1, none⟩ = some (.int .i64 mp) ∧ Below w.heap.size w w3 ∧ w.heap.size + 2 ≤ w3.heap.size := by
  have b : Below (w.heap.size + 1) ((w.alloc (.cells #[.int .i64 mo, .int .i64 mp] 58)).alloc (.cells #[] 58)) w3 := (Below.refl _ _).grown hg (by simp) ho
  have b1 : Below w.heap.size w ((w.alloc (.cells #[.int .i64 mo, .int .i64 mp] 58)).alloc (.cells #[] 58)) := ((Below.refl _ _).alloc (Nat.le_refl _) _).alloc (by simp) _
  have h : ((w.alloc (.cells #[.int .i64 mo, .int .i64 mp] 58)).alloc (.cells #[] 58)).heap[w.heap.size]? = some (.cells #[.int .i64 mo, .int .i64 mp] 58 (0, 0)) := by
    rw [heap_alloc_old _ _ (by simp)]; exact heap_alloc_new w _
  have h3 := (b.block w.heap.size (by omega)).trans h
  refine ⟨cell_of_row _ _ 0 _ _ _ h3 ▸ rfl, cell_of_row _ _ 1 _ _ _ h3 ▸ rfl, b1.trans (b.mono (by omega)), by have := b.size; simp at this; omega⟩

set_option maxHeartbeats 3200000 in
set_option maxRecDepth 100000 in
theorem radd08_some_no (x : Addr) (cap : Nat) (l : List Mk) (base every : Int) (m : Mk) (w : World) (hl : l.length ≤ 1000000000) (hc : ∀ j u, (ML.vals l)[j]? = some u → w.cell? (x.add j) = some u) (h0 : 0 ≤ base) (h1 : base ≤ m.o) (h2 : 1 ≤ every) (h3 : m.o ≤ 9223372036854775807) (h4 : every ≤ 9223372036854775807) (hr : (m.o - base) % every ≠ 0) :
    Calls Try.prog 23 #[.slice (some x) l.length cap, .int .i64 base, .int .i64 every, mkVal m] w (OutL ML w w.heap.size l) := by
  obtain ⟨i0, hi0, hz0, hz1, hz2⟩ := info_parts info_mk
  obtain ⟨mo, mp⟩ := m
  unfold mkVal
  dsimp only at *
  have hd1 : 0 ≤ mo - base := by omega
  have hmod : (mo - base).tmod every = (mo - base) % every := Int.tmod_eq_emod_of_nonneg hd1
  have hown := World.ownsRow_made (e := 58) (size := 2) (base := w.heap.size + 1) (w.alloc (.cells #[.int .i64 mo, .int .i64 mp] 58)) #[] 0 (by simp) (Nat.zero_le _) (by simp)
  rw [show (w.alloc (.cells #[.int .i64 mo, .int .i64 mp] 58)).heap.size = w.heap.size + 1 by simp] at hown
  replace hown := Lib.hid hown
  have HC : Hid (∀ j u, (ML.vals l)[j]? = some u → ((w.alloc (.cells #[.int .i64 mo, .int .i64 mp] 58)).alloc (.cells #[] 58)).cell? (x.add j) = some u) := fun j u hj => Lib.cell?_alloc_some _ (Lib.cell?_alloc_some _ (hc j u hj))
  have H1 := Lib.hid (ML.vals_cells l)
  have HL := Lib.hid (vals_len l)
  have HF : Hid (∀ v' w3, w3.ownsRow (w.heap.size + 1) 58 2 v' l.length (ML.vals l) → OwnL ML w3 (w.heap.size + 1) v' l) := fun v' w3 h => h
  have H2 := Lib.hid (show ∀ u ∈ mkCells ⟨mo, mp⟩, u.oneCell' = true from ML.one ⟨mo, mp⟩)
  clear hc
  generalize ML.vals l = xs at *
  generalize hll : l.length = len at *
  clear hll
  have hz : ((mo - base) % every == 0) = false := by simpa using hr
  clear hr
  go_enter Try.func23, Try.ntmps23
  go_wp2_with (at_builtin; refine wpList_append_own _ rfl _ _ 29 rfl (w.heap.size + 1) 58 i0 (.agg #[.int .i64 0, .int .i64 0]) 2 16 Try.underlying29 hi0 hz0 hz1 hz2 rfl (by decide) _ _ _ rfl hown.out x len cap xs rfl HL.out HC.out H1.out (by unfold maxLen; omega) (by omega) (by simp) ?_; intro v1 w3 hown1 hgrow1 hnil1; obtain ⟨c0, c1, bw, hws⟩ := mbox_grown hgrow1 (fun k hk => (hown.out.lt k hk).1); rw [Nat.zero_add, List.nil_append] at hown1; have HO1 := Lib.hid hown1; have BW := Lib.hid bw; clear hown1 hgrow1 hnil1 bw)
  go_ret
  exact OutL.mk (own_lo (HF.out _ _ HO1.out) (Nat.le_succ _)) BW.out

set_option maxHeartbeats 3200000 in
set_option maxRecDepth 100000 in
theorem radd08_none_no (base every : Int) (m : Mk) (w : World) (h0 : 0 ≤ base) (h1 : base ≤ m.o) (h2 : 1 ≤ every) (h3 : m.o ≤ 9223372036854775807) (h4 : every ≤ 9223372036854775807) (hr : (m.o - base) % every ≠ 0) :
    Calls Try.prog 23 #[.slice none 0 0, .int .i64 base, .int .i64 every, mkVal m] w (OutL ML w w.heap.size []) := by
  obtain ⟨i0, hi0, hz0, hz1, hz2⟩ := info_parts info_mk
  obtain ⟨mo, mp⟩ := m
  unfold mkVal
  dsimp only at *
  have hd1 : 0 ≤ mo - base := by omega
  have hmod : (mo - base).tmod every = (mo - base) % every := Int.tmod_eq_emod_of_nonneg hd1
  have hown := World.ownsRow_made (e := 58) (size := 2) (base := w.heap.size + 1) (w.alloc (.cells #[.int .i64 mo, .int .i64 mp] 58)) #[] 0 (by simp) (Nat.zero_le _) (by simp)
  rw [show (w.alloc (.cells #[.int .i64 mo, .int .i64 mp] 58)).heap.size = w.heap.size + 1 by simp] at hown
  replace hown := Lib.hid hown
  have HF : Hid (∀ v' w3, w3.ownsRow (w.heap.size + 1) 58 2 v' ([] : List Mk).length (ML.vals ([] : List Mk)) → OwnL ML w3 (w.heap.size + 1) v' ([] : List Mk)) := fun v' w3 h => h
  have H2 := Lib.hid (show ∀ u ∈ mkCells ⟨mo, mp⟩, u.oneCell' = true from ML.one ⟨mo, mp⟩)
  have hz : ((mo - base) % every == 0) = false := by simpa using hr
  clear hr
  go_enter Try.func23, Try.ntmps23
  go_wp2_with (at_builtin; refine wpList_append_own_none rfl _ _ 29 rfl (w.heap.size + 1) 58 i0 2 Try.underlying29 hi0 _ 0 [] rfl hown.out rfl ?_)
  go_ret
  exact OutL.mk (own_lo (HF.out _ _ hown.out) (Nat.le_succ _)) (((Below.refl w.heap.size w).alloc (Nat.le_refl _) _).alloc (by simp) _)

set_option maxHeartbeats 3200000 in
set_option maxRecDepth 100000 in
theorem radd08_some_yes (x : Addr) (cap : Nat) (l : List Mk) (base every : Int) (m : Mk) (w : World) (hl : l.length ≤ 1000000000) (hc : ∀ j u, (ML.vals l)[j]? = some u → w.cell? (x.add j) = some u) (h0 : 0 ≤ base) (h1 : base ≤ m.o) (h2 : 1 ≤ every) (h3 : m.o ≤ 9223372036854775807) (h4 : every ≤ 9223372036854775807) (hr : (m.o - base) % every = 0) :
    Calls Try.prog 23 #[.slice (some x) l.length cap, .int .i64 base, .int .i64 every, mkVal m] w (OutL ML w w.heap.size (l ++ [m])) := by
  obtain ⟨i0, hi0, hz0, hz1, hz2⟩ := info_parts info_mk
  obtain ⟨mo, mp⟩ := m
  unfold mkVal
  dsimp only at *
  have hd1 : 0 ≤ mo - base := by omega
  have hmod : (mo - base).tmod every = (mo - base) % every := Int.tmod_eq_emod_of_nonneg hd1
  have hown := World.ownsRow_made (e := 58) (size := 2) (base := w.heap.size + 1) (w.alloc (.cells #[.int .i64 mo, .int .i64 mp] 58)) #[] 0 (by simp) (Nat.zero_le _) (by simp)
  rw [show (w.alloc (.cells #[.int .i64 mo, .int .i64 mp] 58)).heap.size = w.heap.size + 1 by simp] at hown
  replace hown := Lib.hid hown
  have HC : Hid (∀ j u, (ML.vals l)[j]? = some u → ((w.alloc (.cells #[.int .i64 mo, .int .i64 mp] 58)).alloc (.cells #[] 58)).cell? (x.add j) = some u) := fun j u hj => Lib.cell?_alloc_some _ (Lib.cell?_alloc_some _ (hc j u hj))
  have H1 := Lib.hid (ML.vals_cells l)
  have HL := Lib.hid (vals_len l)
  have HF : Hid (∀ v' w3, w3.ownsRow (w.heap.size + 1) 58 2 v' (l.length + 1) (ML.vals l ++ mkCells ⟨mo, mp⟩) → OwnL ML w3 (w.heap.size + 1) v' (l ++ [⟨mo, mp⟩])) := fun v' w3 h => OwnL.snoc (n := l.length) h rfl rfl
  have H2 := Lib.hid (show ∀ u ∈ mkCells ⟨mo, mp⟩, u.oneCell' = true from ML.one ⟨mo, mp⟩)
  clear hc
  generalize ML.vals l = xs at *
  generalize hll : l.length = len at *
  clear hll
  have hz : ((mo - base) % every == 0) = true := by simpa using hr
  have hz' : (mo - base) % every = 0 := hr
  clear hr
  go_enter Try.func23, Try.ntmps23
  go_wp2_with (first | (at_builtin; refine wpList_append_own _ rfl _ _ 29 rfl (w.heap.size + 1) 58 i0 (.agg #[.int .i64 0, .int .i64 0]) 2 16 Try.underlying29 hi0 hz0 hz1 hz2 rfl (by decide) _ _ _ rfl hown.out x len cap xs rfl HL.out HC.out H1.out (by unfold maxLen; omega) (by omega) (by simp) ?_; intro v1 w3 hown1 hgrow1 hnil1; obtain ⟨c0, c1, bw, hws⟩ := mbox_grown hgrow1 (fun k hk => (hown.out.lt k hk).1); rw [Nat.zero_add, List.nil_append] at hown1; have HO1 := Lib.hid hown1; have BW := Lib.hid bw; clear hown1 hgrow1 hnil1 bw; have HNEW := Lib.hid (news_new w3 w3.heap.size (mkCells ⟨mo, mp⟩) 58 rfl); have HOA := Lib.hid (show (w3.alloc (.cells (mkCells ⟨mo, mp⟩).toArray 58)).ownsRow (w.heap.size + 1) 58 2 v1 len xs from HO1.out.alloc _)) | (at_builtin; refine wpList_append_own _ rfl _ _ 29 rfl (w.heap.size + 1) 58 i0 (.agg #[.int .i64 0, .int .i64 0]) 2 16 Try.underlying29 hi0 hz0 hz1 hz2 rfl (by decide) _ _ _ rfl HOA.out ⟨w3.heap.size, 0, none⟩ 1 1 (mkCells ⟨mo, mp⟩) rfl rfl HNEW.out H2.out (by unfold maxLen; omega) (by omega) (by simp <;> omega) ?_; intro v2 w4 hown2 hgrow2 hnil2))
  go_ret
  exact OutL.mk (own_lo (HF.out _ _ hown2) (Nat.le_succ _)) ((BW.out.alloc (by omega) _).grown hgrow2 (by simp <;> omega) (fun k hk => by have := (HOA.out.lt k hk).1; omega))

set_option maxHeartbeats 3200000 in
set_option maxRecDepth 100000 in
theorem radd08_none_yes (base every : Int) (m : Mk) (w : World) (h0 : 0 ≤ base) (h1 : base ≤ m.o) (h2 : 1 ≤ every) (h3 : m.o ≤ 9223372036854775807) (h4 : every ≤ 9223372036854775807) (hr : (m.o - base) % every = 0) :
    Calls Try.prog 23 #[.slice none 0 0, .int .i64 base, .int .i64 every, mkVal m] w (OutL ML w w.heap.size ([] ++ [m])) := by
  obtain ⟨i0, hi0, hz0, hz1, hz2⟩ := info_parts info_mk
  obtain ⟨mo, mp⟩ := m
  unfold mkVal
  dsimp only at *
  have hd1 : 0 ≤ mo - base := by omega
  have hmod : (mo - base).tmod every = (mo - base) % every := Int.tmod_eq_emod_of_nonneg hd1
  have hown := World.ownsRow_made (e := 58) (size := 2) (base := w.heap.size + 1) (w.alloc (.cells #[.int .i64 mo, .int .i64 mp] 58)) #[] 0 (by simp) (Nat.zero_le _) (by simp)
  rw [show (w.alloc (.cells #[.int .i64 mo, .int .i64 mp] 58)).heap.size = w.heap.size + 1 by simp] at hown
  replace hown := Lib.hid hown
  have HF : Hid (∀ v' w3, w3.ownsRow (w.heap.size + 1) 58 2 v' (([] : List Mk).length + 1) (ML.vals ([] : List Mk) ++ mkCells ⟨mo, mp⟩) → OwnL ML w3 (w.heap.size + 1) v' (([] : List Mk) ++ [⟨mo, mp⟩])) := fun v' w3 h => OwnL.snoc (n := ([] : List Mk).length) h rfl rfl
  have H2 := Lib.hid (show ∀ u ∈ mkCells ⟨mo, mp⟩, u.oneCell' = true from ML.one ⟨mo, mp⟩)
  have hz : ((mo - base) % every == 0) = true := by simpa using hr
  have hz' : (mo - base) % every = 0 := hr
  clear hr
  go_enter Try.func23, Try.ntmps23
  have HNEW := Lib.hid (news_new ((w.alloc (.cells #[.int .i64 mo, .int .i64 mp] 58)).alloc (.cells #[] 58)) (w.heap.size + 1 + 1) (mkCells ⟨mo, mp⟩) 58 (by simp))
  have HOA := Lib.hid (show (((w.alloc (.cells #[.int .i64 mo, .int .i64 mp] 58)).alloc (.cells #[] 58)).alloc (.cells (mkCells ⟨mo, mp⟩).toArray 58)).ownsRow (w.heap.size + 1) 58 2 (.slice (some ⟨w.heap.size + 1, 0, none⟩) 0 0) 0 [] from hown.out.alloc _)
  go_wp2_with (first | (at_builtin; refine wpList_append_own_none rfl _ _ 29 rfl (w.heap.size + 1) 58 i0 2 Try.underlying29 hi0 _ 0 [] rfl hown.out rfl ?_) | (at_builtin; refine wpList_append_own _ rfl _ _ 29 rfl (w.heap.size + 1) 58 i0 (.agg #[.int .i64 0, .int .i64 0]) 2 16 Try.underlying29 hi0 hz0 hz1 hz2 rfl (by decide) _ _ _ rfl HOA.out ⟨w.heap.size + 1 + 1, 0, none⟩ 1 1 (mkCells ⟨mo, mp⟩) rfl rfl HNEW.out H2.out (by unfold maxLen; omega) (by omega) (by simp <;> omega) ?_; intro v2 w4 hown2 hgrow2 hnil2))
  go_ret
  exact OutL.mk (own_lo (HF.out _ _ hown2) (Nat.le_succ _)) (((((Below.refl w.heap.size w).alloc (Nat.le_refl _) _).alloc (by simp) _).alloc (by simp <;> omega) _).grown hgrow2 (by simp <;> omega) (fun k hk => by have := (HOA.out.lt k hk).1; omega))

/-- A slice that is nil has no room. -/
def NilOk (v : Value) : Prop := ∀ n c, v = .slice none n c → c = 0
theorem own_nil {w : World} {B : Nat} {v : Value} {l : List Mk} (h : OwnL ML w B v l) : NilOk v := by
  rintro n c rfl
  rcases h.2 with ⟨h0, _⟩ | ⟨g, cap, cur, h0, _⟩
  · injection h0
  · injection h0 with h0; cases h0
theorem add_len (l : List Mk) (b e : Int) (m : Mk) : (add l b e m).length ≤ l.length + 1 := by unfold add; split <;> simp
theorem add_ok {l : List Mk} {base every : Int} {m : Mk} (h : ∀ x ∈ l, MkB x) (hm : MkB m) : ∀ x ∈ add l base every m, MkB x := by
  intro x hx
  unfold add at hx
  split at hx
  · rw [List.mem_append] at hx
    rcases hx with hx | hx
    · exact h x hx
    · rw [List.mem_singleton] at hx; subst hx; exact hm
  · exact h x hx
theorem radd08_any (v : Value) (l : List Mk) (base every : Int) (m : Mk) (w : World) (hv : IsL ML w v l) (hn : NilOk v) (hl : l.length ≤ 1000000000) (h0 : 0 ≤ base) (h1 : base ≤ m.o) (h2 : 1 ≤ every) (h3 : m.o ≤ 9223372036854775807) (h4 : every ≤ 9223372036854775807) :
    Calls Try.prog 23 #[v, .int .i64 base, .int .i64 every, mkVal m] w (OutL ML w w.heap.size (add l base every m)) := by
  unfold add
  obtain ⟨a, cap, rfl, _, _, hc⟩ := hv
  have key : ∀ x : Addr, a = some x → (∀ j u, (ML.vals l)[j]? = some u → w.cell? (x.add j) = some u) → Calls Try.prog 23 #[.slice a l.length cap, .int .i64 base, .int .i64 every, mkVal m] w (OutL ML w w.heap.size (if (m.o - base) % every = 0 then l ++ [m] else l)) := by
    rintro x rfl hx
    by_cases hr : (m.o - base) % every = 0
    · rw [if_pos hr]; exact radd08_some_yes x cap l base every m w hl hx h0 h1 h2 h3 h4 hr
    · rw [if_neg hr]; exact radd08_some_no x cap l base every m w hl hx h0 h1 h2 h3 h4 hr
  rcases hc with rfl | ⟨b, off, rfl, hc⟩
  · cases a with
    | some x => exact key x rfl (fun j u hj => by simp [Lay.vals] at hj)
    | none =>
      obtain rfl := hn _ _ rfl
      by_cases hr : (m.o - base) % every = 0
      · rw [if_pos hr]; exact radd08_none_yes base every m w h0 h1 h2 h3 h4 hr
      · rw [if_neg hr]; exact radd08_none_no base every m w h0 h1 h2 h3 h4 hr
  · exact key _ rfl (fun j u hj => by rw [addr_plain]; exact hc j u hj)

theorem frozen2 {W : World} {k : Nat} {T : TypeId} {cs : Array Value} (h : W.heap[k]? = some (.cells cs T (0, 0))) : W.frozen? ⟨k, 0, none⟩ = false ∧ W.frozen? ⟨k, 1, none⟩ = false := by
  constructor <;> (unfold World.frozen?; rw [h]; rfl)
/-- What is found: the last of the first n. -/
def fndVal (l : List Mk) (n : Nat) : Value := match n with | 0 => .tuple #[.agg #[.int .i64 0, .int .i64 0], .bool false] | n + 1 => .tuple #[.agg #[.int .i64 (l.getD n zero).o, .int .i64 (l.getD n zero).p], .bool true]


end Go.Proofs.Ytfodcgipdhppmaa.Mks

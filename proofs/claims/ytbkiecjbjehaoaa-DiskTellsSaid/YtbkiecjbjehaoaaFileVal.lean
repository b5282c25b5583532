/-
  Files as values; a slice of files in memory, as a list; one of the call's own; slices.Clone of files.
-/
import Derived.Test.YtbkiecjbjehaoaaDiskPlain
import Derived.Test.YtbkiecjbjehaoaaList
import Derived.Test.YtbkiecjbjehaoaaRow
import Derived.Lib.SmallJoins
import Derived.Deep.Slices
import Derived.Deep.Strs
import Derived.ChangeArms
import Derived.Lib.Builder
namespace Go.Proofs.Ytbkiecjbjehaoaa.Dsk
open Go.RowKit Go.ChangeShapes Go.WideShapes Go.Deep Go.Joins

/-- A file's cells; a file as a value; may memory hold it? -/
def flCells (f : Dp.Fl) : List Value := [.string f.n, .string f.d, .int .i64 f.s]
def flVal (f : Dp.Fl) : Value := .agg #[.string f.n, .string f.d, .int .i64 f.s]
def FlB (f : Dp.Fl) : Prop := f.n.size ≤ 9223372036854775807 ∧ f.d.size ≤ 9223372036854775807 ∧ -9223372036854775808 ≤ f.s ∧ f.s ≤ 9223372036854775807
def zero : Dp.Fl := ⟨⟨#[]⟩, ⟨#[]⟩, 0⟩
@[simp] theorem flCells_len (f : Dp.Fl) : (flCells f).length = 3 := rfl
/-- How files lie in memory. -/
def FL : Lay Dp.Fl where
  enc := flCells
  k := 3
  len := flCells_len
  one := by intro f u hu; simp [flCells] at hu; rcases hu with rfl | rfl | rfl <;> rfl
  pos := by decide
  T := 43
  ok := FlB
  z := zero
theorem info_fl : (Try.prog.info? 43).map (fun i => (i.zero, i.size, i.bytes)) = some (some (.agg #[.string ByteArray.empty, .string ByteArray.empty, .int .i64 0]), 3, 40) := by kernel_rfl
theorem _root_.Go.Proofs.Ytbkiecjbjehaoaa.Lay.vals_snoc {α : Type} (Y : Lay α) (l : List α) (x : α) : Y.vals (l ++ [x]) = Y.vals l ++ Y.enc x := by rw [Y.vals_append, Y.vals_one]
theorem vals_snoc (l : List Dp.Fl) (f : Dp.Fl) : FL.vals (l ++ [f]) = FL.vals l ++ flCells f := FL.vals_snoc l f
/-- The cells of a file in a slice. -/
theorem at3 {w : World} {b off n cap : Nat} {l : List Dp.Fl} (h : IsL FL w (.slice (some ⟨b, off, none⟩) n cap) l) {i : Nat} (hi : i < n) :
    w.cell? ⟨b, off + i * 3, none⟩ = some (.string (l.getD i zero).n) ∧ w.cell? ⟨b, off + i * 3 + 1, none⟩ = some (.string (l.getD i zero).d) ∧ w.cell? ⟨b, off + i * 3 + 2, none⟩ = some (.int .i64 (l.getD i zero).s) :=
  ⟨h.at_ hi 0 _ rfl, h.at_ hi 1 _ rfl, h.at_ hi 2 _ rfl⟩
/-- A row of the call's own: the block's cells. -/
theorem _root_.Go.Proofs.Ytbkiecjbjehaoaa.OwnL.open_ {α : Type} {Y : Lay α} {w : World} {base : Nat} {v : Value} {l : List α} (h : OwnL Y w base v l) (hl : 0 < l.length) :
    ∃ g cap cur, v = .slice (some ⟨g, 0, none⟩) l.length cap ∧ base ≤ g ∧ w.heap[g]? = some (.cells cur Y.T (0, 0)) ∧ l.length ≤ cap ∧ cap ≤ maxLen ∧ cur.size = cap * Y.k ∧ cur.toList.take (l.length * Y.k) = Y.vals l := by
  rcases h.2 with ⟨_, h0⟩ | h1
  · omega
  · exact h1
theorem _root_.Go.Proofs.Ytbkiecjbjehaoaa.OwnL.mk {α : Type} {Y : Lay α} {w : World} {base g cap : Nat} {cur : Array Value} {l : List α} (hb : base ≤ g) (hg : w.heap[g]? = some (.cells cur Y.T (0, 0))) (hc : l.length ≤ cap) (hm : cap ≤ maxLen) (hs : cur.size = cap * Y.k) (ht : cur.toList.take (l.length * Y.k) = Y.vals l) :
    OwnL Y w base (.slice (some ⟨g, 0, none⟩) l.length cap) l := ⟨Y.vals_len l, .inr ⟨g, cap, cur, rfl, hb, hg, hc, hm, hs, ht⟩⟩
theorem own_open {w : World} {base : Nat} {v : Value} {l : List Dp.Fl} (h : OwnL FL w base v l) (hl : 0 < l.length) :
    ∃ g cap cur, v = .slice (some ⟨g, 0, none⟩) l.length cap ∧ base ≤ g ∧ w.heap[g]? = some (.cells cur 43 (0, 0)) ∧ l.length ≤ cap ∧ cap ≤ maxLen ∧ cur.size = cap * 3 ∧ cur.toList.take (l.length * 3) = FL.vals l := h.open_ hl
theorem own_mk {w : World} {base g cap : Nat} {cur : Array Value} {l : List Dp.Fl} (hb : base ≤ g) (hg : w.heap[g]? = some (.cells cur 43 (0, 0))) (hc : l.length ≤ cap) (hm : cap ≤ maxLen) (hs : cur.size = cap * 3) (ht : cur.toList.take (l.length * 3) = FL.vals l) :
    OwnL FL w base (.slice (some ⟨g, 0, none⟩) l.length cap) l := OwnL.mk hb hg hc hm hs ht
theorem vals_len (l : List Dp.Fl) : (FL.vals l).length = l.length * 3 := FL.vals_len l
theorem vals_take (l : List Dp.Fl) (i : Nat) : (FL.vals l).take (i * 3) = FL.vals (l.take i) := FL.vals_take l i
theorem vals_drop (l : List Dp.Fl) (i : Nat) : (FL.vals l).drop (i * 3) = FL.vals (l.drop i) := FL.vals_drop l i

set_option maxHeartbeats 1600000 in
set_option maxRecDepth 100000 in
theorem clone_nil (cap : Nat) (w : World) :
    Calls Try.prog 42 #[.slice none 0 cap] w (OutL FL w w.heap.size []) := by
  have q22 : ∀ (w : World) (a : Option Addr) (n c n' c' : Nat), (binOp .eql 22 (.slice a n c) (.slice none n' c')).run Try.prog w = .ok (.bool a.isNone) w := fun w a n c n' c' => Lib.run_eql_slice_nil w _ _ a n c n' c' Try.underlying22
  have HF := Lib.hid (OutL.mk (OwnL.nil (Y := FL) w w.heap.size) (Below.refl _ w))
  go_enter Try.func42, Try.ntmps42
  go_wp2_with fail
  go_ret
  exact HF.out

set_option maxHeartbeats 1600000 in
set_option maxRecDepth 100000 in
theorem clone_some (x : Addr) (cap : Nat) (l : List Dp.Fl) (w : World) (hl : l.length ≤ 1000000000000) (hc : ∀ j u, (FL.vals l)[j]? = some u → w.cell? (x.add j) = some u) :
    Calls Try.prog 42 #[.slice (some x) l.length cap] w (OutL FL w w.heap.size l) := by
  obtain ⟨i0, hi0, hz0, hz1, hz2⟩ := info_parts info_fl
  have q22 : ∀ (w : World) (a : Option Addr) (n c n' c' : Nat), (binOp .eql 22 (.slice a n c) (.slice none n' c')).run Try.prog w = .ok (.bool a.isNone) w := fun w a n c n' c' => Lib.run_eql_slice_nil w _ _ a n c n' c' Try.underlying22
  have HC : Hid (∀ j u, (FL.vals l)[j]? = some u → (w.alloc (.cells #[] 43)).cell? (x.add j) = some u) := fun j u hj => Lib.cell?_alloc_some _ (hc j u hj)
  have H1 := Lib.hid (FL.vals_cells l)
  have HL := Lib.hid (vals_len l)
  have HF : Hid (∀ v' w3, w3.ownsRow w.heap.size 43 3 v' (0 + l.length) ([] ++ FL.vals l) → (w.alloc (.cells #[] 43)).grownBy w3 (some w.heap.size) → OutL FL w w.heap.size l (.returned v') w3) := by
    intro v' w3 h hg
    rw [Nat.zero_add, List.nil_append] at h
    exact OutL.mk h (((Below.refl _ w).alloc (Nat.le_refl _) _).grown hg (by simp) (fun k hk => by injection hk with hk; omega))
  have hown := Lib.hid (World.ownsRow_made (e := 43) (size := 3) w #[] 0 (Nat.le_refl _) (Nat.zero_le _) (by simp))
  clear hc
  generalize FL.vals l = xs at *
  generalize l.length = len at *
  go_enter Try.func42, Try.ntmps42
  go_wp2_with (at_builtin; refine wpList_append_own _ rfl _ _ 22 rfl w.heap.size 43 i0 (.agg #[.string ByteArray.empty, .string ByteArray.empty, .int .i64 0]) 3 40 Try.underlying22 hi0 hz0 hz1 hz2 rfl (by decide) _ _ _ rfl hown.out x len cap xs rfl HL.out HC.out H1.out (by unfold maxLen; omega) (by omega) (by simp) ?_; intro v' w3 hown' hgrow3 hnil3)
  go_ret
  exact HF.out v' w3 hown' hgrow3

theorem clone_any (v : Value) (l : List Dp.Fl) (w : World) (h : IsL FL w v l) (hl : l.length ≤ 1000000000000) :
    Calls Try.prog 42 #[v] w (OutL FL w w.heap.size l) := by
  obtain ⟨a, cap, rfl, _, _, h3⟩ := h
  rcases h3 with rfl | ⟨b, off, rfl, h4⟩
  · cases a with
    | none => exact clone_nil cap w
    | some x => exact clone_some x cap [] w (by simp) (by simp [Lay.vals])
  · exact clone_some ⟨b, off, none⟩ cap l w hl (fun j u hj => by rw [addr_plain]; exact h4 j u hj)

end Go.Proofs.Ytbkiecjbjehaoaa.Dsk

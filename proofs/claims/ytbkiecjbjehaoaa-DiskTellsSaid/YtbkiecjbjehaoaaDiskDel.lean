/-
  What slices.Delete makes of files of the call's own: the file at one place goes.
-/
import Derived.Test.YtbkiecjbjehaoaaFileVal
import Derived.Shelf.RegionOpenPlain
import Derived.Deep.RegionLaw
import Derived.Lib.SliceRun
import Derived.BigQuiet
namespace Go.Proofs.Ytbkiecjbjehaoaa.Dsk
open Go.RowKit Go.Lib

/-- The cells of a file of noughts. -/
def noughts : List Value := [.string ⟨#[]⟩, .string ⟨#[]⟩, .int .i64 0]
theorem zero_fl : ∀ w, (zeroValue 43).run Try.prog w = .ok (.agg #[.string ⟨#[]⟩, .string ⟨#[]⟩, .int .i64 0]) w := fun w => by kernel_rfl

set_option maxHeartbeats 1600000 in
set_option maxRecDepth 100000 in
theorem del_row (n cap i j g : Nat) (cur : Array Value) (xs : List Value) (w : World) (hij : j = i + 1) (hj : j ≤ n) (hnc : n ≤ cap)
    (hg : w.heap[g]? = some (.cells cur 43 (0, 0))) (hs : cur.size = cap * 3) (ht : cur.toList.take (n * 3) = xs) (h1 : ∀ u ∈ xs, u.oneCell' = true) :
    Calls Try.prog 53 #[.slice (some ⟨g, 0, none⟩) n cap, .int .i64 (i : Int), .int .i64 (j : Int)] w fun e w' =>
      e = .returned (.slice (some ⟨g, 0, none⟩) (i + (n - j)) cap) ∧ w' = (w.drew.setCells g (i * 3) (xs.drop (j * 3))).setCells g ((i + (n - j)) * 3) noughts := by
  have mixed : Try.prog.follows Departure.mixedOrders = true := by kernel_rfl
  obtain ⟨i0, hi0, hz0, hz1, hz2⟩ := info_parts info_fl
  have hxl : xs.length = n * 3 := by rw [← ht, List.length_take, Array.length_toList]; omega
  obtain ⟨news, hnews⟩ : ∃ news, news = xs.drop (j * 3) := ⟨_, rfl⟩
  have hnl : news.length = (n - j) * 3 := by rw [hnews, List.length_drop, hxl]; omega
  have hgd : w.drew.heap[g]? = some (.cells cur 43 (0, 0)) := hg
  obtain ⟨A, hA, hsrc⟩ : ∃ A : Addr, (if cap = j then some (⟨g, 0, none⟩ : Addr) else some ⟨g, j * 3, none⟩) = some A ∧ Hid (∀ t u, news[t]? = some u → w.drew.cell? (A.add t) = some u) := by
    by_cases h : cap = j
    · refine ⟨⟨g, 0, none⟩, by simp [h], fun t u hu => ?_⟩
      have h0 : news.length = 0 := by rw [hnl]; omega
      rw [List.length_eq_zero_iff.1 h0] at hu
      simp at hu
    · refine ⟨⟨g, j * 3, none⟩, by simp [h], fun t u hu => ?_⟩
      rw [addr_plain]
      rw [hnews] at hu
      exact row_part hgd ht t u hu
  have s1 : Hid (news.length = (n - j) * 3) := hnl
  have s2 : Hid (∀ u ∈ news, u.oneCell' = true) := by
    intro u hu
    rw [hnews] at hu
    exact h1 u (List.mem_of_mem_drop hu)
  have s3 : Hid (∀ t, t < news.length → (w.drew.cell? ⟨g, 0 + i * 3 + t, none⟩).isSome = true ∧ w.drew.frozen? ⟨g, 0 + i * 3 + t, none⟩ = false) := by
    intro t htl
    rw [hnl] at htl
    exact row_some hgd _ (by omega)
  obtain ⟨W1, hW1⟩ : ∃ W1, W1 = w.drew.setCells g (i * 3) news := ⟨_, rfl⟩
  have hg1 : W1.heap[g]? = some (.cells (splice cur (i * 3) news) 43 (0, 0)) := by rw [hW1]; exact setCells_heap hgd (by rw [hnl]; omega)
  have hsz1 : (splice cur (i * 3) news).size = cap * 3 := by rw [splice_size (by rw [hnl]; omega)]; exact hs
  have hcl : ∀ ty c, (Builtin.clear_ #[22] ty #[.slice (some ⟨g, (i + (n - j)) * 3, none⟩) (n - (i + (n - j))) c]).run Try.prog W1 = .ok (.tuple #[]) (W1.setCells g ((i + (n - j)) * 3) noughts) := by
    intro ty c
    rw [show n - (i + (n - j)) = 1 from by omega]
    refine run_clear_one W1 _ _ ty _ noughts Try.underlying22 zero_fl (by kernel_rfl) (by intro v hv; simp [noughts] at hv; rcases hv with rfl | rfl | rfl <;> rfl) g _ c (fun t htl => ?_)
    have : noughts.length = 3 := rfl
    exact row_some hg1 _ (by omega)
  have hW : Hid (W1 = w.drew.setCells g (0 + i * 3) news) := by rw [Nat.zero_add]; exact hW1
  have HX : Hid (W1 = w.drew.setCells g (i * 3) (xs.drop (j * 3))) := by rw [← hnews]; exact hW1
  have hic : i ≤ cap := by omega
  have hjc : j ≤ cap := by omega
  have hlt : i < j := by omega
  have hne : ¬ ((i : Int) = (j : Int)) := by omega
  clear hij hW1 hg1 hgd hnews hnl ht hs hxl hg h1
  go_enter Try.func53, Try.ntmps53
  go_wp2_with fail
  go_region_law_o (refine step_append_room rfl (.tmp 22) (.tmp 25) 22 rfl 43 i0 3 Try.underlying22 hi0 hz1 g 0 i cap (by simp [Act.eval, Act.put]) A (n - j) (cap - j) news (by simp [Act.eval, Act.put]) s1.out hsrc.out s2.out (by omega) s3.out ?_; rw [← hW.out])
  go_wp2
  go_ret
  exact ⟨rfl, by rw [HX.out]⟩

end Go.Proofs.Ytbkiecjbjehaoaa.Dsk

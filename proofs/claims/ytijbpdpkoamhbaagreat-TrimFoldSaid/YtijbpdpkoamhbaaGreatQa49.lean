/-
  Parts of what the laws of this seat stand on: RecFew.
-/
import Derived.Test.YtijbpdpkoamhbaaGreatQa1
import Derived.Outline
import Derived.Test.YtijbpdpkoamhbaaGreatQa28
set_option maxRecDepth 100000
set_option maxHeartbeats 6400000
namespace Go.Proofs.YtijbpdpkoamhbaaGreat
section
open Go.RowKit
def fewB (rs : List Rp.Rec) (most : Int) : Bool := decide ((rs.length : Int) ≤ most) && rs.all fun r => decide (r.d.size ≤ 300)
theorem fewB_long {rs : List Rp.Rec} {most : Int} (h : most < (rs.length : Int)) : fewB rs most = false := by
 unfold fewB
 rw [Bool.and_eq_false_iff]
 exact .inl (decide_eq_false (by omega))
theorem fewB_big {rs : List Rp.Rec} {most : Int} {r : Rp.Rec} (hr : r ∈ rs) (h : 300 < r.d.size) : fewB rs most = false := by
 unfold fewB
 rw [Bool.and_eq_false_iff, List.all_eq_false]
 exact .inr ⟨r, hr, by simpa using h⟩
theorem fewB_yes {rs : List Rp.Rec} {most : Int} (h : (rs.length : Int) ≤ most) (hs : ∀ r ∈ rs, r.d.size ≤ 300) : fewB rs most = true := by
 unfold fewB
 rw [Bool.and_eq_true, List.all_eq_true]
 exact ⟨decide_eq_true h, fun r hr => decide_eq_true (hs r hr)⟩
theorem few_none (a : Option Addr) (cap : Nat) (most : Int) (w : World) (h : 0 ≤ most) :
 Calls Tryz.prog 22 #[.slice a 0 cap, .int .i64 most] w fun e w' => e = .returned (.bool true) ∧ w = w' := by
 go_enter Tryz.func22, Tryz.ntmps22
 go_wp2_with fail
 refine wp_loop_rounds 1 ?_
 rw [rounds_succ]
 go_wp2_with fail
 go_ret
 exact ⟨rfl, rfl⟩
theorem few_long (a : Option Addr) (len cap : Nat) (most : Int) (w : World) (h : most < (len : Int)) :
 Calls Tryz.prog 22 #[.slice a len cap, .int .i64 most] w fun e w' => e = .returned (.bool false) ∧ w = w' := by
 go_enter Tryz.func22, Tryz.ntmps22
 go_wp2_with fail
 go_ret
 exact ⟨rfl, rfl⟩
theorem small_take {rs : List Rp.Rec} {k : Nat} (hk : k < rs.length) (h : ∀ r ∈ rs.take k, r.d.size ≤ 300) (h1 : (rs.getD k Rp.zero).d.size ≤ 300) : ∀ r ∈ rs.take (k + 1), r.d.size ≤ 300 := by
 intro r hr
 rw [List.take_succ_eq_append_getElem hk] at hr
 rcases List.mem_append.1 hr with hr | hr
 · exact h r hr
 · rw [List.mem_singleton] at hr
   have e : rs.getD k Rp.zero = rs[k] := by simp [List.getD_eq_getElem?_getD, hk]
   rw [hr, ← e]; exact h1
theorem few_some (rs : List Rp.Rec) (b off cap : Nat) (most : Int) (w : World) (hl : (rs.length : Int) ≤ most) (hm : rs.length ≤ maxLen)
 (hc : ∀ i, i < rs.length → w.cell? ⟨b, off + i * 3, none⟩ = some (.int .i64 (rs.getD i Rp.zero).a) ∧ w.cell? ⟨b, off + i * 3 + 1, none⟩ = some (.int .i64 (rs.getD i Rp.zero).t) ∧ w.cell? ⟨b, off + i * 3 + 2, none⟩ = some (.string (rs.getD i Rp.zero).d)) :
 Calls Tryz.prog 22 #[.slice (some ⟨b, off, none⟩) rs.length cap, .int .i64 most] w fun e w' => e = .returned (.bool (fewB rs most)) ∧ w = w' := by
 unfold maxLen at hm
 have HC := zid hc
 have HY := zid (@fewB_yes rs most hl)
 have HN := zid fun (r : Rp.Rec) => @fewB_big rs most r
 clear hc
 obtain ⟨len, hlen⟩ : ∃ len, rs.length = len := ⟨_, rfl⟩
 rw [hlen] at HC hl hm ⊢
 have HL := zid hlen
 clear hlen
 go_enter Tryz.func22, Tryz.ntmps22
 go_wp2_with fail
 go_loop [5] (fun i => ∃ k : Nat, k ≤ len ∧ i = .int .i64 k ∧ ∀ r ∈ rs.take k, r.d.size ≤ 300) (fun i => len - (intOf i).toNat)
 case atStart => exact ⟨0, Nat.zero_le _, rfl, by simp⟩
 case round =>
  obtain ⟨k, hk, rfl, hs⟩ := hrel
  have HS := zid hs
  clear hs
  by_cases hlt : k < len
  · have hlt' : k < rs.length := by rw [HL.out]; exact hlt
    obtain ⟨c0, c1, c2⟩ := HC.out k hlt
    have HT := zid (small_take hlt' HS.out)
    have HI : Hid (rs.getD k Rp.zero ∈ rs) := zid (by
     have e : rs.getD k Rp.zero = rs[k] := by simp [List.getD_eq_getElem?_getD, hlt']
     rw [e]; exact List.getElem_mem _)
    clear hlt'
    generalize rs.getD k Rp.zero = r at *
    by_cases hb : 300 < (r.d.size : Int)
    · have HF := zid (HN.out r HI.out (by omega))
      go_wp2_with fail
      go_ret
      exact ⟨by rw [HF.out]; rfl, rfl⟩
    · have HF := zid (HT.out (by omega))
      go_wp2_with fail
      go_round
      case rel => exact ⟨k + 1, by omega, by go_num, HF.out⟩
      case measure => simp [intOf]; omega
  · have hall : rs.take k = rs := List.take_of_length_le (by rw [HL.out]; omega)
    have HF := zid (HY.out (by have := HS.out; rwa [hall] at this))
    clear hall
    go_wp2_with fail
    go_ret
    exact ⟨by rw [HF.out]; rfl, rfl⟩
theorem few_any (v : Value) (rs : List Rp.Rec) (most : Int) (w : World) (h0 : 0 ≤ most) (h : IsRecs w v rs) :
 Calls Tryz.prog 22 #[v, .int .i64 most] w fun e w' => e = .returned (.bool (fewB rs most)) ∧ w = w' := by
 obtain ⟨a, cap, rfl, hm, _, h3⟩ := h
 by_cases hl : (rs.length : Int) ≤ most
 · rcases h3 with rfl | ⟨b, off, rfl, h4⟩
   · rw [fewB_yes hl (by simp)]
     exact few_none a cap most w h0
   · exact few_some rs b off cap most w hl hm h4
 · rw [fewB_long (by omega)]
   exact few_long a rs.length cap most w (by omega)
end
end Go.Proofs.YtijbpdpkoamhbaaGreat

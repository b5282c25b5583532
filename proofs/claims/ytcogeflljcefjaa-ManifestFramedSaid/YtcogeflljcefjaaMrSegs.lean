/-
  What the program's reader of layer 10 takes of a text: the offsets, all fields.
-/
import Derived.Test.YtcogeflljcefjaaMrNum
import Derived.Test.YtcogeflljcefjaaManGet
import Derived.Deep.OwnRows
namespace Go.Proofs.Ytcogeflljcefjaa.Mfs
open Go.RowKit Go.Proofs.Ytcogeflljcefjaa.Qm

theorem numR_len (l : List UInt8) (b : Bool) : (numR l b).2.1.length ≤ l.length := (numR_in l b).2.2
/-- A row of the call's own, above the reader's box. -/
theorem own_grown {r base n : Nat} {v : Value} {xs : List Value} {w w' : World} (h : w.ownsRow base 3 1 v n xs) (hr : r < base) (g : w.grownBy w' (some r)) : w'.ownsRow base 3 1 v n xs := by
  refine h.kept g ?_
  rcases hb : v.ownBlock with _ | k
  · exact .inl rfl
  · exact .inr (fun e => by injection e with e; have := (h.lt k hb).1; omega)
theorem set_snoc (a : List Value) (m : Nat) (z x : Value) : (a ++ List.replicate (m + 1) z).set a.length x = (a ++ [x]) ++ List.replicate m z := by
  rw [List.set_append_right _ _ (Nat.le_refl _), Nat.sub_self, List.replicate_succ, List.set_cons_zero, List.append_assoc]
  rfl
theorem il_vals_len (l : List Int) : (IL.vals l).length = l.length := by rw [IL.vals_len]; exact Nat.mul_one _
/-- All zeros behind the numbers that were taken. -/
def part (xs : List Int) (m : Nat) : List Value := IL.vals xs ++ List.replicate m (.int .i64 0)
theorem part_zero (n : Nat) : part [] n = List.replicate n (.int .i64 0) := rfl
theorem part_all (xs : List Int) : part xs 0 = IL.vals xs := by unfold part; simp
theorem part_set (xs : List Int) (m : Nat) (x : Int) : (part xs (m + 1)).set xs.length (.int .i64 x) = part (xs ++ [x]) m := by
  unfold part
  rw [show xs.length = (IL.vals xs).length from (il_vals_len xs).symm, set_snoc, IL.vals_append, IL.vals_one]
  rfl

theorem part_at (xs : List Int) (m : Nat) : (part xs (m + 1))[xs.length]? = some (.int .i64 0) := by
  unfold part
  rw [show xs.length = (IL.vals xs).length from (il_vals_len xs).symm, List.getElem?_append_right (Nat.le_refl _), Nat.sub_self]
  rfl

/-- What taking the offsets leaves. -/
def SgOut (r : Nat) (L : List Int) (l : List UInt8) (b : Bool) (w : World) (e : Ending) (w' : World) : Prop := ∃ a n c, e = .returned (.slice a n c) ∧ IsL IL w' (.slice a n c) L ∧ (∀ q, (Value.slice a n c).ownBlock = some q → w.heap.size ≤ q) ∧ RD r l b w' ∧ w.grownBy w' (some r)

set_option maxRecDepth 100000 in
set_option maxHeartbeats 3200000 in
theorem segs_any (r : Nat) (l : List UInt8) (b : Bool) (w : World) (h : RD r l b w) (hl : l.length ≤ 140737488351232) :
    Calls Try.prog 32 #[.pointer (some ⟨r, 0, none⟩)] w (SgOut r (segsR l b).1 (segsR l b).2.1 (segsR l b).2.2 w) := by
  have N := number_any r l b w h hl
  obtain ⟨n0, n1, n2⟩ := numR_in l b
  obtain ⟨i0, hi, hz0, hz1, hz2⟩ := info_parts info_int
  unfold segsR
  obtain ⟨x, hx⟩ : ∃ x, (numR l b).1 = x := ⟨_, rfl⟩
  obtain ⟨l1, hl1⟩ : ∃ l1, (numR l b).2.1 = l1 := ⟨_, rfl⟩
  obtain ⟨b1, hb1⟩ : ∃ b1, (numR l b).2.2 = b1 := ⟨_, rfl⟩
  rw [hx, hl1, hb1] at N
  rw [hx] at n0 n1
  rw [hl1] at n2
  rw [hx, hl1, hb1]
  clear hx hl1 hb1
  have hl1 : l1.length ≤ 140737488351232 := by omega
  replace N := Lib.hid N
  have hrw := h.lt
  clear h n2 hl
  by_cases h64 : 64 < x
  · rw [if_pos h64]
    dsimp only
    go_enter Try.func32, Try.ntmps32
    go_wp2_with fail
    refine N.out.mono ?_
    rintro e w1 ⟨rfl, h1, g1⟩
    have H1 := Lib.hid h1
    have G1 := Lib.hid g1
    obtain ⟨c0, c1, f0, f1⟩ := h1.cells
    clear h1 g1
    go_wp2_with fail
    go_ret
    exact ⟨none, 0, 0, rfl, IsL.nil _ _ _, fun q hq => by simp [Value.ownBlock] at hq, H1.out.bad, grown_trans G1.out (grown_set _ _ _ _)⟩
  · rw [if_neg h64]
    obtain ⟨n, rfl⟩ : ∃ n : Nat, x = (n : Int) := ⟨x.toNat, by omega⟩
    rw [Int.toNat_natCast]
    have hn : n ≤ 64 := by omega
    have h65 : decide ((64 : Int) < (n : Int)) = false := by simp; omega
    have S := Lib.hid fun (k : Nat) (W : World) (hr : RD r (segR k l1 b1).2.1 (segR k l1 b1).2.2 W) => number_any r (segR k l1 b1).2.1 (segR k l1 b1).2.2 W hr (Nat.le_trans (segR_in l1 b1 k).2 hl1)
    have SL := Lib.hid (segR_len l1 b1)
    have SI := Lib.hid (segR_in l1 b1 n).1
    clear h64 n0 n1
    go_enter Try.func32, Try.ntmps32
    go_wp2_with fail
    refine N.out.mono ?_
    rintro e w1 ⟨rfl, h1, g1⟩
    have H1 := Lib.hid h1
    have G1 := Lib.hid g1
    have hw1 := g1.size
    clear h1 g1
    go_wp2_with (refine wpList_make_full _ rfl _ _ 22 rfl w1.heap.size 3 i0 (.int .i64 0) 1 Try.underlying22 hi hz0 hz1 .i64 .i64 _ _ n rfl rfl rfl rfl (by rw [hz2]; omega) (by unfold maxLen; omega) (Nat.le_refl _) ?_; intro w2 hown2 hgrow2; have HO2 := Lib.hid hown2; have HG2 := Lib.hid hgrow2; clear hown2 hgrow2)
    go_loopw [17] (fun i wr => ∃ k : Nat, k ≤ n ∧ i = .int .i64 k ∧ RD r (segR k l1 b1).2.1 (segR k l1 b1).2.2 wr ∧ wr.ownsRow w1.heap.size 3 1 (.slice (some ⟨w1.heap.size, 0, none⟩) n n) n (part (segR k l1 b1).1 (n - k)) ∧ w.grownBy wr (some r)) (fun i _ => n - (intOf i).toNat)
    case atStart =>
      refine ⟨0, Nat.zero_le _, rfl, (HG2.out.block r (Nat.lt_of_lt_of_le hrw hw1) (by simp)).trans H1.out, ?_, grown_trans G1.out ⟨HG2.out.os, HG2.out.tape, HG2.out.output, HG2.out.size, fun k hk _ => HG2.out.block k hk (by simp)⟩⟩
      show World.ownsRow _ _ _ _ _ _ (part [] n)
      rw [part_zero]
      have h := HO2.out
      rw [Nat.mul_one, show (Value.int .i64 0).cells = #[Value.int .i64 0] from rfl, toList_madeCells_one] at h
      exact h
    case round =>
      obtain ⟨k, hk, rfl, hR, hO, hG⟩ := hrel
      have HO := Lib.hid hO
      have HG := Lib.hid hG
      have HR := Lib.hid hR
      have K := Lib.hid (S.out k wr hR)
      clear hR hO hG
      by_cases hlt : k < n
      · go_wp2_with fail
        refine K.out.mono ?_
        rintro e w3 ⟨rfl, h3, g3⟩
        have HO3 := Lib.hid (own_grown HO.out (by omega) g3)
        have H3 := Lib.hid h3
        have G3 := Lib.hid (grown_trans HG.out g3)
        have fz := HO3.out.frozenAt k
        obtain ⟨m, hm⟩ : ∃ m, n - k = m + 1 := ⟨n - k - 1, by omega⟩
        have HM := Lib.hid hm
        clear hm
        have c3 : w3.cell? ⟨w1.heap.size, k, none⟩ = some (.int .i64 0) := by
          have hp := part_at (segR k l1 b1).1 m
          rw [SL.out k, ← HM.out] at hp
          have := HO3.out.cells (g := w1.heap.size) rfl k _ hp
          rwa [addr_plain, Nat.zero_add] at this
        have HS := Lib.hid (HO3.out.stored k (.int .i64 (numR (segR k l1 b1).2.1 (segR k l1 b1).2.2).1))
        have hne : r ≠ w1.heap.size := by omega
        have hgw : w.heap.size ≤ w1.heap.size := hw1
        obtain ⟨f, hf⟩ : ∃ f, (numR (segR k l1 b1).2.1 (segR k l1 b1).2.2).1 = f := ⟨_, rfl⟩
        rw [hf] at HS ⊢
        have HF := Lib.hid hf
        clear hf
        clear h3 g3
        go_wp2_with fail
        go_roundw
        case rel =>
          refine ⟨k + 1, by omega, by go_num, ?_, ?_, ?_⟩
          · exact (Below.heap_setCell _ _ _ _ hne).trans H3.out
          · have h := HS.out.1
            have hps := part_set (segR k l1 b1).1 m f
            rw [SL.out k] at hps
            rw [HM.out, hps] at h
            rw [show n - (k + 1) = m from by have := HM.out; omega]
            show World.ownsRow _ _ _ _ _ _ (part ((segR k l1 b1).1 ++ [(numR (segR k l1 b1).2.1 (segR k l1 b1).2.2).1]) m)
            rw [HF.out]
            exact h
          · refine ⟨G3.out.os, G3.out.tape, G3.out.output, by have := G3.out.size; simp only [World.setCell, Array.size_modify]; exact this, fun q hq hn => ?_⟩
            exact (Below.heap_setCell _ _ _ _ (by show q ≠ w1.heap.size; omega)).trans (G3.out.block q hq hn)
        case measure => simp [intOf]; omega
      · obtain rfl : k = n := by omega
        go_wp2_with fail
        go_ret
        refine ⟨some ⟨w1.heap.size, 0, none⟩, k, k, rfl, ?_, fun q hq => ?_, ?_, HG.out⟩
        · have h := HO.out
          rw [Nat.sub_self, part_all] at h
          have e : (segR k l1 b1).1.length = k := SL.out k
          have o : OwnL IL wr w1.heap.size (.slice (some ⟨w1.heap.size, 0, none⟩) k k) (segR k l1 b1).1 := by
            show World.ownsRow _ _ _ _ _ _ _
            rw [e]
            exact h
          exact o.is (by rw [e]; unfold maxLen; omega) (fun x hx => by have := SI.out x hx; exact ⟨by omega, this.2⟩)
        · obtain rfl : w1.heap.size = q := by simpa [Value.ownBlock] using hq
          exact hw1
        · exact HR.out

end Go.Proofs.Ytcogeflljcefjaa.Mfs
